"""The calls on one net, one behind another, and what they answer."""

from surejourney.checks import need_k, need_minute, need_name, need_places, need_played, need_shift, need_text
from surejourney.net import Net, net_with_shift, net_without, number_of_departure
from surejourney.outlooks import Outlook, sure_from, what_to_do
from surejourney.playing import Traveller, play_journey, told_journey
from surejourney.reading import read_behind, written_net
from surejourney.refusals import NoSuchName, NoSuchPlace, NotAsTold, NothingSure, OutsideTimes, TextFault
from surejourney.ways import NEVER, Ways


# what the calls of one list work on
class Session:
    def __init__(self):
        self.net = Net()


class Call:
    def __init__(self, kind, numbers, rows, behind):
        self.kind = kind
        self.numbers = numbers
        self.rows = rows
        self.behind = behind


def sizes_of(net):
    return [0, len(net.places), len(net.cars), len(net.departures)]


def call_net(session, call):
    text = call.rows[0]
    need_text(text)
    session.net = read_behind(Net(), text)
    return sizes_of(session.net)


def call_add(session, call):
    text = call.rows[0]
    need_text(text)
    session.net = read_behind(session.net, text)
    return sizes_of(session.net)


def call_text(session, call):
    return [0] + written_net(session.net)


def call_without(session, call):
    name = call.rows[0]
    need_name(name)
    session.net = net_without(session.net, name)
    return [0]


def call_shift(session, call):
    minutes = call.numbers[0]
    name = call.rows[0]
    need_shift(minutes)
    need_name(name)
    number = number_of_departure(session.net, name)
    session.net = net_with_shift(session.net, number, minutes)
    departure = session.net.departures[number]
    return [0, departure.leaves, departure.comes]


# k and t, and behind these the places that the call names
def need_start(session, numbers):
    need_k(numbers[0])
    need_minute(numbers[1])
    need_places(session.net, numbers[2:])


# the outlook of a call with k, t, p, d
def outlook_of(session, numbers):
    return Outlook(session.net, Ways(session.net), numbers[3], numbers[0])


def call_sure(session, call):
    numbers = call.numbers
    need_start(session, numbers)
    minute = sure_from(outlook_of(session, numbers), numbers[0], numbers[1], numbers[2])
    if minute == NEVER:
        raise NothingSure()
    return [0, minute]


def call_table(session, call):
    numbers = call.numbers
    need_start(session, numbers)
    ways = Ways(session.net)
    answer = [0]
    for goal in range(len(session.net.places)):
        outlook = Outlook(session.net, ways, goal, numbers[0])
        minute = sure_from(outlook, numbers[0], numbers[1], numbers[2])
        answer.append(-1 if minute == NEVER else minute)
    return answer


def call_next(session, call):
    numbers = call.numbers
    need_start(session, numbers)
    choice = what_to_do(outlook_of(session, numbers), numbers[0], numbers[1], numbers[2])
    return [0, choice.kind, choice.number]


def call_play(session, call):
    numbers = call.numbers
    cancelled = call.rows[0]
    # a wrong number of the row stands ahead of a place that isn't there
    need_played(cancelled)
    need_start(session, numbers)
    outlook = outlook_of(session, numbers)
    traveller = Traveller(numbers[0], numbers[1], numbers[2])
    play_journey(outlook, traveller, cancelled)
    return [0] + told_journey(outlook, traveller)


# for each call how many whole numbers it has, how many rows
SHAPES = {
    0: (0, 1),
    1: (0, 1),
    2: (0, 0),
    3: (0, 1),
    4: (1, 1),
    5: (4, 0),
    6: (3, 0),
    7: (4, 0),
    8: (4, 1),
}

HANDLERS = {
    0: call_net,
    1: call_add,
    2: call_text,
    3: call_without,
    4: call_shift,
    5: call_sure,
    6: call_table,
    7: call_next,
    8: call_play,
}


def call_at(calls, begin):
    shape = SHAPES[calls[begin]]
    behind = begin + 1 + shape[0]
    numbers = calls[begin + 1:behind]
    rows = []
    while len(rows) < shape[1]:
        first = behind + 1
        behind = first + calls[behind]
        rows.append(calls[first:behind])
    return Call(calls[begin], numbers, rows, behind)


def answer_of(session, call):
    handler = HANDLERS[call.kind]
    try:
        return handler(session, call)
    except TextFault as fault:
        return [1, fault.kind, fault.place]
    except NotAsTold:
        return [-1]
    except NoSuchPlace:
        return [-4]
    except NoSuchName:
        return [-5]
    except NothingSure:
        return [-7]
    except OutsideTimes:
        return [-8]


def answers(calls):
    session = Session()
    told = []
    begin = 0
    while begin < len(calls):
        call = call_at(calls, begin)
        answer = answer_of(session, call)
        told.append(len(answer))
        told.extend(answer)
        begin = call.behind
    return told
