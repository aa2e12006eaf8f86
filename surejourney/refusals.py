"""The errors by which a call is refused, and the fault of a text."""


# -1: a number or text that isn't as told
class NotAsTold(Exception):
    pass


# -4: a number of a place that the net doesn't have
class NoSuchPlace(Exception):
    pass


# -5: a name that nothing of the asked kind has
class NoSuchName(Exception):
    pass


# -7: nothing is sure, or not by the limit; or there's no way by cars
class NothingSure(Exception):
    pass


# -8: a departure would go before the first minute or come after the last
class OutsideTimes(Exception):
    pass


# the first fault of a text: its kind, and how many bytes stand before it
class TextFault(Exception):
    def __init__(self, kind, place):
        self.kind = kind
        self.place = place
