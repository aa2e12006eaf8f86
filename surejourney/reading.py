"""A text read as a net, up to its first fault; and a net written."""

from surejourney.net import Car, Departure, LAST_MINUTE, Place, copy_of_net, number_of_name
from surejourney.refusals import TextFault
from surejourney.words import NEW_LINE, WRONG_WORD, bytes_of, lines_of, number_told, take_name, take_number

MOST_PLACES = 8
MOST_CARS = 16
MOST_DEPARTURES = 30
MOST_HANDLING = 1000
LONGEST_CAR = 10000

OUT_OF_RANGE = 3
NAME_TAKEN = 4
NO_PLACE = 5
SAME_PLACE = 6
NO_ROOM = 7
NOT_LATER = 8


# The net handed in stays as it is, for a fault may come as late as in the last line.
def read_behind(net, text):
    other = copy_of_net(net)
    for line in lines_of(text):
        if line.has_more():
            read_line(other, line)
    return other


def read_line(net, line):
    word = line.take()
    if word.signs == bytes_of("place"):
        need_room(word, net.places, MOST_PLACES)
        net.places.append(read_place(net, line))
    elif word.signs == bytes_of("car"):
        need_room(word, net.cars, MOST_CARS)
        net.cars.append(read_car(net, line))
    elif word.signs == bytes_of("go"):
        need_room(word, net.departures, MOST_DEPARTURES)
        net.departures.append(read_departure(net, line))
    else:
        raise TextFault(WRONG_WORD, word.place)
    line.close()


def need_room(word, things, most):
    if len(things) >= most:
        raise TextFault(NO_ROOM, word.place)


def read_place(net, line):
    name = take_new_name(line, net.places)
    handling = 0
    if line.has_more():
        handling = take_number_between(line, 0, MOST_HANDLING)
    return Place(name, handling)


def read_car(net, line):
    name = take_new_name(line, net.cars + net.departures)
    origin = take_place(net, line)
    end = take_other_place(net, line, origin)
    minutes = take_number_between(line, 1, LONGEST_CAR)
    return Car(name, origin, end, minutes)


def read_departure(net, line):
    name = take_new_name(line, net.cars + net.departures)
    origin = take_place(net, line)
    leaves = take_number_between(line, 0, LAST_MINUTE)
    end = take_other_place(net, line, origin)
    comes = take_later_minute(line, leaves)
    return Departure(name, origin, leaves, end, comes)


def take_new_name(line, things):
    word = take_name(line)
    if number_of_name(things, word.signs) >= 0:
        raise TextFault(NAME_TAKEN, word.place)
    return word.signs


def place_of_word(net, word):
    number = number_of_name(net.places, word.signs)
    if number < 0:
        raise TextFault(NO_PLACE, word.place)
    return number


def take_place(net, line):
    return place_of_word(net, take_name(line))


def take_other_place(net, line, origin):
    word = take_name(line)
    number = place_of_word(net, word)
    if number == origin:
        raise TextFault(SAME_PLACE, word.place)
    return number


def number_between(word, least, most):
    number = number_told(word.signs)
    if number < least or number > most:
        raise TextFault(OUT_OF_RANGE, word.place)
    return number


def take_number_between(line, least, most):
    return number_between(take_number(line), least, most)


def take_later_minute(line, leaves):
    word = take_number(line)
    comes = number_between(word, 0, LAST_MINUTE)
    if comes <= leaves:
        raise TextFault(NOT_LATER, word.place)
    return comes


def written_line(words):
    line = []
    for word in words:
        if len(line) > 0:
            line.extend(bytes_of(" "))
        line.extend(word)
    return line + [NEW_LINE]


def written_number(number):
    return bytes_of(str(number))


def written_place(place):
    words = [bytes_of("place"), place.name]
    if place.handling != 0:
        words.append(written_number(place.handling))
    return written_line(words)


def written_car(net, car):
    origin = net.places[car.origin].name
    end = net.places[car.end].name
    return written_line([bytes_of("car"), car.name, origin, end, written_number(car.minutes)])


def written_departure(net, departure):
    leaving = [net.places[departure.origin].name, written_number(departure.leaves)]
    coming = [net.places[departure.end].name, written_number(departure.comes)]
    return written_line([bytes_of("go"), departure.name] + leaving + coming)


def written_net(net):
    text = []
    for place in net.places:
        text.extend(written_place(place))
    for car in net.cars:
        text.extend(written_car(net, car))
    for departure in net.departures:
        text.extend(written_departure(net, departure))
    return text
