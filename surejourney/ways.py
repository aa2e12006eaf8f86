"""The shortest ways by cars."""

# Later than any minute and longer than any way, so that the least and the greatest of minutes may be taken with it.
NEVER = 1000000000


# How long cars take between each two places: coming tells when one comes, ready when one is ready to leave there.
class Ways:
    def __init__(self, net):
        self.coming = coming_table(net)
        self.ready = ready_table(net, self.coming)


def single_cars_table(net):
    table = []
    for place in range(len(net.places)):
        row = [NEVER] * len(net.places)
        row[place] = 0
        table.append(row)
    for car in net.cars:
        table[car.origin][car.end] = min(table[car.origin][car.end], car.minutes)
    return table


# Each turn allows one more place between, so behind the last one every way has been weighed.
def coming_table(net):
    table = single_cars_table(net)
    for between, place in enumerate(net.places):
        onward = table[between]
        table = [shorter_row(row, row[between] + place.handling, onward) for row in table]
    return table


def shorter_row(row, ready, onward):
    return [min(straight, ready + more) for straight, more in zip(row, onward)]


def ready_table(net, coming):
    table = []
    for origin, minutes in enumerate(coming):
        row = [minutes[end] + place.handling for end, place in enumerate(net.places)]
        # who is there already has no handling before them
        row[origin] = 0
        table.append(row)
    return table
