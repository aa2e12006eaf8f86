"""The calls on one net, one behind another, and what they answer."""

from surejourney.checks import HIGHEST_K, need_k, need_minute, need_name, need_places, need_played, need_shift
from surejourney.checks import need_text
from surejourney.net import Net, kind_and_number, net_with_shift, net_without, number_of_departure
from surejourney.outlooks import Outlook, sure_from, what_to_do
from surejourney.playing import Traveller, play_journey, play_worst_case, told_journey
from surejourney.reading import read_behind, written_net
from surejourney.refusals import NoSuchName, NoSuchPlace, NotAsTold, NothingSure, OutsideTimes, TextFault
from surejourney.starts import last_start, profile_minutes
from surejourney.ways import NEVER, Ways


# what the calls of one list work on
class Session:
    def __init__(self):
        self.net = Net()


class Call:
    def __init__(self, kind, numbers, rows, behind):
        self.kind = kind
        self.numbers = numbers
        self.rows = rows
        self.behind = behind


def sizes_of(net):
    return [0, len(net.places), len(net.cars), len(net.departures)]


def call_net(session, call):
    text = call.rows[0]
    need_text(text)
    session.net = read_behind(Net(), text)
    return sizes_of(session.net)


def call_add(session, call):
    text = call.rows[0]
    need_text(text)
    session.net = read_behind(session.net, text)
    return sizes_of(session.net)


def call_text(session, call):
    return [0] + written_net(session.net)


def call_without(session, call):
    name = call.rows[0]
    need_name(name)
    session.net = net_without(session.net, name)
    return [0]


def call_shift(session, call):
    minutes = call.numbers[0]
    name = call.rows[0]
    need_shift(minutes)
    need_name(name)
    number = number_of_departure(session.net, name)
    session.net = net_with_shift(session.net, number, minutes)
    departure = session.net.departures[number]
    return [0, departure.leaves, departure.comes]


# k and t (or the limit), and behind these the places that the call names
def need_start(session, numbers):
    need_k(numbers[0])
    need_minute(numbers[1])
    need_places(session.net, numbers[2:])


def outlook_to(session, goal, most):
    return Outlook(session.net, Ways(session.net), goal, most)


# the outlook of a call with k, t (or the limit), p, d
def outlook_of(session, numbers):
    return outlook_to(session, numbers[3], numbers[0])


def need_some(minutes):
    if minutes == NEVER:
        raise NothingSure()


def call_sure(session, call):
    numbers = call.numbers
    need_start(session, numbers)
    minute = sure_from(outlook_of(session, numbers), numbers[0], numbers[1], numbers[2])
    need_some(minute)
    return [0, minute]


def sure_to_each(session, k, minute, place):
    ways = Ways(session.net)
    minutes = []
    for goal in range(len(session.net.places)):
        outlook = Outlook(session.net, ways, goal, k)
        minutes.append(sure_from(outlook, k, minute, place))
    return minutes


def told_minutes(minutes):
    return [-1 if minute == NEVER else minute for minute in minutes]


def call_table(session, call):
    numbers = call.numbers
    need_start(session, numbers)
    return [0] + told_minutes(sure_to_each(session, numbers[0], numbers[1], numbers[2]))


def call_next(session, call):
    numbers = call.numbers
    need_start(session, numbers)
    choice = what_to_do(outlook_of(session, numbers), numbers[0], numbers[1], numbers[2])
    return [0, choice.kind, choice.number]


def call_play(session, call):
    numbers = call.numbers
    cancelled = call.rows[0]
    # a wrong number of the row stands ahead of a place that isn't there
    need_played(cancelled)
    need_start(session, numbers)
    outlook = outlook_of(session, numbers)
    traveller = Traveller(numbers[0], numbers[1], numbers[2])
    play_journey(outlook, traveller, cancelled)
    return [0] + told_journey(outlook, traveller)


def call_last(session, call):
    numbers = call.numbers
    need_start(session, numbers)
    minute = last_start(outlook_of(session, numbers), numbers[0], numbers[1], numbers[2])
    if minute < 0:
        raise NothingSure()
    return [0, minute]


def call_profile(session, call):
    k = call.numbers[0]
    need_k(k)
    need_places(session.net, call.numbers[1:])
    place = call.numbers[1]
    outlook = outlook_to(session, call.numbers[2], k)
    minutes = profile_minutes(outlook, k, place)
    answer = [0, len(minutes)]
    for minute in minutes:
        answer.extend([minute, sure_from(outlook, k, minute, place)])
    return answer


def call_worst(session, call):
    numbers = call.numbers
    need_start(session, numbers)
    outlook = outlook_of(session, numbers)
    minute = sure_from(outlook, numbers[0], numbers[1], numbers[2])
    need_some(minute)
    cancelled = play_worst_case(outlook, Traveller(numbers[0], numbers[1], numbers[2]))
    return [0, minute, len(cancelled)] + cancelled


def call_cars(session, call):
    need_places(session.net, call.numbers)
    minutes = Ways(session.net).coming[call.numbers[0]][call.numbers[1]]
    need_some(minutes)
    return [0, minutes]


def call_who(session, call):
    numbers = call.numbers
    limit = numbers[2]
    need_k(numbers[0])
    need_minute(numbers[1])
    need_minute(limit)
    need_places(session.net, numbers[3:])
    minutes = sure_to_each(session, numbers[0], numbers[1], numbers[3])
    places = [place for place, minute in enumerate(minutes) if minute <= limit]
    return [0, len(places)] + places


def call_stands(session, call):
    numbers = call.numbers
    limit = numbers[1]
    need_minute(numbers[0])
    need_minute(limit)
    need_places(session.net, numbers[2:])
    outlook = outlook_to(session, numbers[3], HIGHEST_K)
    for k in range(HIGHEST_K, -1, -1):
        if sure_from(outlook, k, numbers[0], numbers[2]) <= limit:
            return [0, k]
    raise NothingSure()


def call_state(session, call):
    return sizes_of(session.net)


def call_find(session, call):
    name = call.rows[0]
    need_name(name)
    return [0] + kind_and_number(session.net, name)


def call_worths(session, call):
    k = call.numbers[0]
    need_k(k)
    need_places(session.net, call.numbers[1:])
    return [0] + told_minutes(outlook_to(session, call.numbers[1], k).worths[k])


# for each call how many whole numbers it has, how many rows
SHAPES = {
    0: (0, 1),
    1: (0, 1),
    2: (0, 0),
    3: (0, 1),
    4: (1, 1),
    5: (4, 0),
    6: (3, 0),
    7: (4, 0),
    8: (4, 1),
    9: (4, 0),
    10: (3, 0),
    11: (4, 0),
    12: (2, 0),
    13: (4, 0),
    14: (4, 0),
    15: (0, 0),
    16: (0, 1),
    17: (2, 0),
}

HANDLERS = {
    0: call_net,
    1: call_add,
    2: call_text,
    3: call_without,
    4: call_shift,
    5: call_sure,
    6: call_table,
    7: call_next,
    8: call_play,
    9: call_last,
    10: call_profile,
    11: call_worst,
    12: call_cars,
    13: call_who,
    14: call_stands,
    15: call_state,
    16: call_find,
    17: call_worths,
}


def call_at(calls, begin):
    shape = SHAPES[calls[begin]]
    behind = begin + 1 + shape[0]
    numbers = calls[begin + 1:behind]
    rows = []
    while len(rows) < shape[1]:
        first = behind + 1
        behind = first + calls[behind]
        rows.append(calls[first:behind])
    return Call(calls[begin], numbers, rows, behind)


def answer_of(session, call):
    handler = HANDLERS[call.kind]
    try:
        return handler(session, call)
    except TextFault as fault:
        return [1, fault.kind, fault.place]
    except NotAsTold:
        return [-1]
    except NoSuchPlace:
        return [-4]
    except NoSuchName:
        return [-5]
    except NothingSure:
        return [-7]
    except OutsideTimes:
        return [-8]


def answers(calls):
    session = Session()
    told = []
    begin = 0
    while begin < len(calls):
        call = call_at(calls, begin)
        answer = answer_of(session, call)
        told.append(len(answer))
        told.extend(answer)
        begin = call.behind
    return told
