"""What's sure, and what to do."""

from surejourney.refusals import NothingSure
from surejourney.ways import NEVER

AT_GOAL = 0
BY_CAR = 1
BY_DEPARTURE = 2


# All that's known for one goal: worths[k][number] is the worth of a departure at k, for each k up to most.
class Outlook:
    def __init__(self, net, ways, goal, most):
        self.net = net
        self.ways = ways
        self.goal = goal
        self.worths = []
        for k in range(most + 1):
            add_worths(self, k)


# what to do: one of the three kinds above, and the car's or departure's number
class Choice:
    def __init__(self, kind, number):
        self.kind = kind
        self.number = number


# A worth hangs on later departures and on fewer cancelled alone: these are there already.
def add_worths(outlook, k):
    departures = outlook.net.departures
    outlook.worths.append([NEVER] * len(departures))
    for number in latest_first(departures):
        outlook.worths[k][number] = worth_of(outlook, k, departures[number])


def latest_first(departures):
    return sorted(range(len(departures)), key=lambda number: departures[number].leaves, reverse=True)


def worth_of(outlook, k, departure):
    if k == 0:
        return sure_if_it_goes(outlook, k, departure)
    return max(sure_if_it_goes(outlook, k, departure), sure_if_cancelled(outlook, k, departure))


def sure_if_it_goes(outlook, k, departure):
    minute = minute_there(outlook, departure.end, departure.comes)
    return sure_from(outlook, k, minute, departure.end)


def sure_if_cancelled(outlook, k, departure):
    return sure_from(outlook, k - 1, departure.leaves + 1, departure.origin)


# when one is ready at a place to which one comes at a minute; at the goal one is through without handling
def minute_there(outlook, place, comes):
    if place == outlook.goal:
        return comes
    return comes + outlook.net.places[place].handling


# what's sure from being ready at a place at a minute; NEVER if nothing is
def sure_from(outlook, k, minute, place):
    if place == outlook.goal:
        return minute
    best = by_cars_alone(outlook, minute, place)
    for number in departures_in_time(outlook, minute, place):
        best = min(best, outlook.worths[k][number])
    return best


def by_cars_alone(outlook, minute, place):
    return min(NEVER, minute + outlook.ways.coming[place][outlook.goal])


def departures_in_time(outlook, minute, place):
    ready = outlook.ways.ready[place]
    departures = outlook.net.departures
    return [number for number, other in enumerate(departures) if minute + ready[other.origin] <= other.leaves]


def what_to_do(outlook, k, minute, place):
    if place == outlook.goal:
        return Choice(AT_GOAL, 0)
    best = sure_from(outlook, k, minute, place)
    if best == NEVER:
        raise NothingSure()
    if by_cars_alone(outlook, minute, place) == best:
        return Choice(BY_CAR, car_to_goal(outlook, place))
    number = departure_to_take(outlook, k, minute, place, best)
    departure = outlook.net.departures[number]
    if departure.origin == place:
        return Choice(BY_DEPARTURE, number)
    return Choice(BY_CAR, car_to_be_ready(outlook, place, departure.origin))


# min takes the first of equal ones, so of those that go first the one told first
def departure_to_take(outlook, k, minute, place, best):
    departures = outlook.net.departures
    in_time = departures_in_time(outlook, minute, place)
    good = [number for number in in_time if outlook.worths[k][number] == best]
    return min(good, key=lambda number: departures[number].leaves)


# the first car from a place that begins a shortest way to the goal
def car_to_goal(outlook, place):
    coming = outlook.ways.coming
    goal = outlook.goal
    good = []
    for number, car in enumerate(outlook.net.cars):
        ready = minute_there(outlook, car.end, car.minutes)
        if car.origin == place and ready + coming[car.end][goal] == coming[place][goal]:
            good.append(number)
    return good[0]


# the first car from a place that begins a shortest way to be ready at another one
def car_to_be_ready(outlook, place, other):
    ready = outlook.ways.ready
    good = []
    for number, car in enumerate(outlook.net.cars):
        minutes = car.minutes + outlook.net.places[car.end].handling
        if car.origin == place and minutes + ready[car.end][other] == ready[place][other]:
            good.append(number)
    return good[0]
