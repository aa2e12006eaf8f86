"""Whether what a call hands over is as told."""

from surejourney.net import LAST_MINUTE
from surejourney.refusals import NoSuchPlace, NotAsTold
from surejourney.words import LONGEST_NAME

HIGHEST_K = 3
HIGHEST_PLACE = 7
HIGHEST_BYTE = 255
LONGEST_TEXT = 4000
MOST_PLAYED = 30
HIGHEST_PLAYED = 29
FARTHEST_SHIFT = 100000


def need_between(number, least, most):
    if number < least or number > most:
        raise NotAsTold()


def need_row(row, longest, highest):
    need_between(len(row), 0, longest)
    for number in row:
        need_between(number, 0, highest)


def need_text(row):
    need_row(row, LONGEST_TEXT, HIGHEST_BYTE)


def need_name(row):
    need_row(row, LONGEST_NAME, HIGHEST_BYTE)


def need_played(row):
    need_row(row, MOST_PLAYED, HIGHEST_PLAYED)


def need_shift(minutes):
    need_between(minutes, -FARTHEST_SHIFT, FARTHEST_SHIFT)


def need_k(k):
    need_between(k, 0, HIGHEST_K)


def need_minute(minute):
    need_between(minute, 0, LAST_MINUTE)


# All numbers are looked at before any place is looked up: -1 stands ahead of -4.
def need_places(net, places):
    for place in places:
        need_between(place, 0, HIGHEST_PLACE)
    for place in places:
        if place >= len(net.places):
            raise NoSuchPlace()
