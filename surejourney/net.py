"""A net: its places, cars and departures. A name is a list of bytes."""

from surejourney.refusals import NoSuchName, OutsideTimes

LAST_MINUTE = 100000


class Place:
    def __init__(self, name, handling):
        self.name = name
        self.handling = handling


class Car:
    def __init__(self, name, origin, end, minutes):
        self.name = name
        self.origin = origin
        self.end = end
        self.minutes = minutes


class Departure:
    def __init__(self, name, origin, leaves, end, comes):
        self.name = name
        self.origin = origin
        self.leaves = leaves
        self.end = end
        self.comes = comes


class Net:
    def __init__(self):
        self.places = []
        self.cars = []
        self.departures = []


# The lists are new ones; what lies in them is never changed, so both nets may share it.
def copy_of_net(net):
    other = Net()
    other.places = list(net.places)
    other.cars = list(net.cars)
    other.departures = list(net.departures)
    return other


# the number of the first thing with that name, -1 if there's none
def number_of_name(things, name):
    for number, thing in enumerate(things):
        if thing.name == name:
            return number
    return -1


def number_of_departure(net, name):
    number = number_of_name(net.departures, name)
    if number < 0:
        raise NoSuchName()
    return number


# 0 for a place, 1 for a car, 2 for a departure: the first of these that has the name; and its number
def kind_and_number(net, name):
    for kind, things in enumerate([net.places, net.cars, net.departures]):
        number = number_of_name(things, name)
        if number >= 0:
            return [kind, number]
    raise NoSuchName()


def net_without(net, name):
    number = number_of_departure(net, name)
    other = copy_of_net(net)
    other.departures.pop(number)
    return other


def shifted_departure(departure, minutes):
    leaves = departure.leaves + minutes
    comes = departure.comes + minutes
    if leaves < 0 or comes > LAST_MINUTE:
        raise OutsideTimes()
    return Departure(departure.name, departure.origin, leaves, departure.end, comes)


def net_with_shift(net, number, minutes):
    other = copy_of_net(net)
    other.departures[number] = shifted_departure(net.departures[number], minutes)
    return other
