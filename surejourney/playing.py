"""A journey where some departures are cancelled, and which ones are in a worst case."""

from surejourney.outlooks import BY_CAR, BY_DEPARTURE, minute_there, sure_from, sure_if_cancelled, sure_if_it_goes
from surejourney.outlooks import what_to_do
from surejourney.ways import NEVER

STEP_BY_CAR = 1
STEP_BY_DEPARTURE = 2
STEP_CANCELLED = 3
NUMBERS_OF_A_STEP = 3


# who is ready at a place at a minute, with k still to be reckoned with, and the steps so far
class Traveller:
    def __init__(self, k, minute, place):
        self.k = k
        self.minute = minute
        self.place = place
        self.steps = []


def play_journey(outlook, traveller, cancelled):
    while goes_on(outlook, traveller):
        take_step(outlook, traveller, choice_of(outlook, traveller), cancelled)


# The departures cancelled in a worst case, in order. None is waited for twice, for a journey never goes back in time:
# so it's told step by step with those cancelled so far.
def play_worst_case(outlook, traveller):
    cancelled = []
    while goes_on(outlook, traveller):
        choice = choice_of(outlook, traveller)
        if choice.kind == BY_DEPARTURE and is_worse_cancelled(outlook, traveller.k, choice.number):
            cancelled.append(choice.number)
        take_step(outlook, traveller, choice, cancelled)
    return cancelled


def is_worse_cancelled(outlook, k, number):
    if k == 0:
        return False
    departure = outlook.net.departures[number]
    return sure_if_cancelled(outlook, k, departure) > sure_if_it_goes(outlook, k, departure)


def goes_on(outlook, traveller):
    if traveller.place == outlook.goal:
        return False
    return sure_from(outlook, traveller.k, traveller.minute, traveller.place) != NEVER


def choice_of(outlook, traveller):
    return what_to_do(outlook, traveller.k, traveller.minute, traveller.place)


def take_step(outlook, traveller, choice, cancelled):
    if choice.kind == BY_CAR:
        go_by_car(outlook, traveller, choice.number)
    elif choice.number in cancelled:
        wait_in_vain(outlook, traveller, choice.number)
    else:
        go_by_departure(outlook, traveller, choice.number)


def come_to(outlook, traveller, place, comes):
    traveller.place = place
    traveller.minute = minute_there(outlook, place, comes)


def go_by_car(outlook, traveller, number):
    car = outlook.net.cars[number]
    traveller.steps.extend([STEP_BY_CAR, number, traveller.minute])
    come_to(outlook, traveller, car.end, traveller.minute + car.minutes)


def go_by_departure(outlook, traveller, number):
    departure = outlook.net.departures[number]
    traveller.steps.extend([STEP_BY_DEPARTURE, number, departure.leaves])
    come_to(outlook, traveller, departure.end, departure.comes)


def wait_in_vain(outlook, traveller, number):
    departure = outlook.net.departures[number]
    traveller.steps.extend([STEP_CANCELLED, number, departure.leaves])
    traveller.minute = departure.leaves + 1
    traveller.k = max(traveller.k - 1, 0)


# when one comes (-1: one doesn't), how many steps, and these
def told_journey(outlook, traveller):
    comes = -1
    if traveller.place == outlook.goal:
        comes = traveller.minute
    return [comes, len(traveller.steps) // NUMBERS_OF_A_STEP] + traveller.steps
