"""What the tests share: how calls are written down, nets by chance, and slow ways to reckon the same."""

import functools
import itertools
import random
import re

from surejourney.journeys import answers

NONE = 10 ** 12
FAR = 10 ** 18
FLIGHTS = (
    "place home 5\nplace port 10\nplace city 7\nplace goal 3\n"
    "car taxi home port 40\ncar ride city goal 20\ncar slow home goal 900\n"
    "go f1 port 60 city 100\ngo f2 port 90 city 130\ngo f3 port 200 goal 300\n"
)
HOURLY = "place a\nplace b\n" + "".join(f"go g{i} a {60 * i} b {60 * i + 50}\n" for i in range(4))


def row(numbers):
    """A list as it lies in the calls; a text stands for its bytes."""
    if isinstance(numbers, str):
        numbers = list(numbers.encode("latin-1"))
    return [len(numbers)] + list(numbers)


def net(text):
    return [0] + row(text)


def add(text):
    return [1] + row(text)


def text():
    return [2]


def without(name):
    return [3] + row(name)


def shift(minutes, name):
    return [4, minutes] + row(name)


def sure(k, t, p, d):
    return [5, k, t, p, d]


def table(k, t, p):
    return [6, k, t, p]


def to_do(k, t, p, d):
    return [7, k, t, p, d]


def play(k, t, p, d, cancelled=()):
    return [8, k, t, p, d] + row(cancelled)


def last_start(k, limit, p, d):
    return [9, k, limit, p, d]


def profile(k, p, d):
    return [10, k, p, d]


def worst(k, t, p, d):
    return [11, k, t, p, d]


def cars(p, d):
    return [12, p, d]


def who(k, t, limit, p):
    return [13, k, t, limit, p]


def stands(t, limit, p, d):
    return [14, t, limit, p, d]


def state():
    return [15]


def find(name):
    return [16] + row(name)


def worths(k, d):
    return [17, k, d]


def joined(calls):
    return [number for call in calls for number in call]


def parted(told):
    """The answers of the calls, each a list of its own."""
    parts = []
    at = 0
    while at < len(told):
        parts.append(told[at + 1:at + 1 + told[at]])
        assert len(parts[-1]) == told[at] >= 1
        at += 1 + told[at]
    return parts


def ask(*calls):
    return parted(answers(joined(calls)))


def last(*calls):
    return ask(*calls)[-1]


def written(*calls):
    """The net behind these calls, as text."""
    answer = last(*calls, text())
    assert answer[0] == 0
    return bytes(answer[1:]).decode("latin-1")


class Model:
    """A net as plain tuples; each reckoning follows the document's words, however slow."""

    def __init__(self, places, cars, departures):
        self.places = places          # handling
        self.cars = cars              # from, to, long
        self.departures = departures  # from, dep, to, arr

    def text(self):
        lines = [f"place p{i} {h}" for i, h in enumerate(self.places)]
        lines += [f"car c{i} p{a} p{b} {n}" for i, (a, b, n) in enumerate(self.cars)]
        lines += [f"go g{i} p{a} {x} p{b} {y}" for i, (a, x, b, y) in enumerate(self.departures)]
        return "\n".join(lines)

    @functools.lru_cache(maxsize=None)
    def ways(self, p, d):
        """Every way by cars from p to d that enters no place twice: minutes till one comes, and its first car."""
        found = []
        stack = [(p, 0, (p,), None)]
        while stack:
            here, spent, seen, first = stack.pop()
            for number, (a, b, long) in enumerate(self.cars):
                if a != here or b in seen:
                    continue
                begun = number if first is None else first
                if b == d:
                    found.append((spent + long, begun))
                else:
                    stack.append((b, spent + long + self.places[b], seen + (b,), begun))
        return found

    def shortest(self, p, d):
        """The fewest minutes and the first car in order that begins such a way."""
        if p == d:
            return 0, None
        return min(self.ways(p, d), default=(NONE, None))

    def ready(self, p, d):
        return 0 if p == d else self.shortest(p, d)[0] + self.places[d]

    @functools.lru_cache(maxsize=None)
    def game(self, p, t, k, d):
        """What's sure by single steps: each car and each departure from here, the worst of what may come of it."""
        if p == d:
            return t
        if t > self.end():
            return NONE
        best = NONE
        for a, b, long in self.cars:
            if a == p:
                best = min(best, self.game(b, t + long + (0 if b == d else self.places[b]), k, d))
        for a, leaves, b, comes in self.departures:
            if a == p and leaves >= t:
                worst = self.game(b, comes + (0 if b == d else self.places[b]), k, d)
                if k > 0:
                    worst = max(worst, self.game(p, leaves + 1, k - 1, d))
                best = min(best, worst)
        return best

    def end(self):
        """No way that's worth its while goes on for longer."""
        cars = sum(long for a, b, long in self.cars) + sum(self.places)
        return max([40] + [go[3] for go in self.departures]) + 2 * cars + 1

    @functools.lru_cache(maxsize=None)
    def worth(self, number, k, d):
        origin, leaves, end, comes = self.departures[number]
        going = comes if end == d else self.sure(end, comes + self.places[end], k, d)
        return going if k == 0 else max(going, self.sure(origin, leaves + 1, k - 1, d))

    def in_time(self, p, t):
        return [n for n, go in enumerate(self.departures) if t + self.ready(p, go[0]) <= go[1]]

    @functools.lru_cache(maxsize=None)
    def sure(self, p, t, k, d):
        if p == d:
            return t
        return min([NONE, t + self.shortest(p, d)[0]] + [self.worth(n, k, d) for n in self.in_time(p, t)])

    def to_do(self, p, t, k, d):
        if p == d:
            return [0, 0, 0]
        best = self.sure(p, t, k, d)
        if best == NONE:
            return [-7]
        minutes, car = self.shortest(p, d)
        if t + minutes == best:
            return [0, 1, car]
        good = [(self.departures[n][1], n) for n in self.in_time(p, t) if self.worth(n, k, d) == best]
        number = min(good)[1]
        origin = self.departures[number][0]
        return [0, 2, number] if origin == p else [0, 1, self.shortest(p, origin)[1]]

    def play(self, p, t, k, d, cancelled):
        steps = []
        while p != d and self.sure(p, t, k, d) != NONE:
            told, kind, number = self.to_do(p, t, k, d)
            if kind == 2 and number in cancelled:
                steps += [3, number, self.departures[number][1]]
                t = self.departures[number][1] + 1
                k = max(0, k - 1)
                continue
            if kind == 2:
                origin, leaves, p, comes = self.departures[number]
                steps += [2, number, leaves]
            else:
                origin, end, long = self.cars[number]
                steps += [1, number, t]
                p = end
                comes = t + long
            t = comes if p == d else comes + self.places[p]
        return [0, t if p == d else -1, len(steps) // 3] + steps

    def last_start(self, p, limit, k, d):
        """Minute for minute; good for small limits alone."""
        good = [t for t in range(limit + 1) if self.sure(p, t, k, d) <= limit]
        return [0, good[-1]] if good else [-7]

    def last_start_by_halves(self, p, limit, k, d):
        """As later is never earlier, the last good minute lies between one that's good and one that isn't."""
        good, bad = -1, limit + 1
        while bad - good > 1:
            middle = (good + bad) // 2
            if self.sure(p, middle, k, d) <= limit:
                good = middle
            else:
                bad = middle
        return [0, good] if good >= 0 else [-7]

    def profile(self, p, k, d):
        told = []
        for t in sorted({leaves - self.ready(p, origin) for origin, leaves, end, comes in self.departures}):
            if t >= 0 and self.sure(p, t, k, d) < t + self.shortest(p, d)[0]:
                if self.sure(p, t, k, d) < NONE and self.sure(p, t + 1, k, d) > self.sure(p, t, k, d):
                    told += [t, self.sure(p, t, k, d)]
        return [0, len(told) // 2] + told

    def worst(self, p, t, k, d):
        best = self.sure(p, t, k, d)
        if best == NONE:
            return [-7]
        cancelled = []
        while p != d:
            told, kind, number = self.to_do(p, t, k, d)
            if kind == 1:
                origin, end, long = self.cars[number]
                p, t = end, t + long + (0 if end == d else self.places[end])
                continue
            origin, leaves, end, comes = self.departures[number]
            there = comes + (0 if end == d else self.places[end])
            if k > 0 and self.sure(p, leaves + 1, k - 1, d) > self.sure(end, there, k, d):
                cancelled.append(number)
                k, t = k - 1, leaves + 1
            else:
                p, t = end, there
        return [0, best, len(cancelled)] + cancelled

    def by_cars(self, p, d):
        return told(self.shortest(p, d)[0])

    def table(self, p, t, k):
        return [0] + minutes_told(self.sure(p, t, k, d) for d in range(len(self.places)))

    def who(self, p, t, k, limit):
        found = [d for d in range(len(self.places)) if self.sure(p, t, k, d) <= limit]
        return [0, len(found)] + found

    def stands(self, p, t, limit, d):
        good = [k for k in range(4) if self.sure(p, t, k, d) <= limit]
        return [0, max(good)] if good else [-7]

    def worths(self, k, d):
        return [0] + minutes_told(self.worth(n, k, d) for n in range(len(self.departures)))


def told(minute):
    return [-7] if minute >= NONE else [0, minute]


def minutes_told(minutes):
    return [-1 if minute >= NONE else minute for minute in minutes]


def chance_net(seed):
    """A small net, crowded so that ties, handling and cancelled departures matter."""
    chance = random.Random(seed)
    places = [chance.choice([0, 0, 1, 2, 3]) for _ in range(chance.randint(2, 4))]
    pairs = list(itertools.permutations(range(len(places)), 2))
    cars = [chance.choice(pairs) + (chance.choice([1, 2, 4, 9, 20, 40]),) for _ in range(chance.randint(0, 4))]
    departures = []
    for _ in range(chance.randint(2, 12)):
        a, b = chance.choice(pairs)
        leaves = chance.randint(0, 30)
        departures.append((a, leaves, b, leaves + chance.choice([1, 1, 2, 5, 8])))
    return Model(places, cars, departures)


def wide_net(seed):
    """A net as large as it may be, or nearly; minutes on a coarse grid, so that many fall together."""
    chance = random.Random(seed)
    places = [chance.choice([0, 0, 5, 10]) for _ in range(chance.randint(5, 8))]
    pairs = list(itertools.permutations(range(len(places)), 2))
    roads = [chance.choice(pairs) + (5 * chance.randint(1, 30),) for _ in range(chance.randint(0, 16))]
    departures = []
    for _ in range(chance.randint(15, 30)):
        a, b = chance.choice(pairs)
        leaves = 5 * chance.randint(0, 40)
        departures.append((a, leaves, b, leaves + 5 * chance.randint(1, 10)))
    return Model(places, roads, departures)


class Fault(Exception):
    pass


class Slow:
    """A net with names, and the answer of each call on it: by the document's words, reckoned by the model."""

    FORMS = {"place": ("new", 1000), "car": ("new", "from", "to", 10000), "go": ("new", "from", 100000, "to", 100000)}
    ROOM = {"place": 8, "car": 16, "go": 30}
    KINDS = ["place", "car", "go"]
    # k, t (or limit), p or d, m: how far each number of a call may go
    HIGHEST = {"k": 3, "t": 100000, "p": 7, "m": 100000}
    NUMBERS = {4: "m", 5: "ktpp", 6: "ktp", 7: "ktpp", 8: "ktpp", 9: "ktpp", 10: "kpp", 11: "ktpp", 12: "pp",
               13: "kttp", 14: "ttpp", 17: "kp"}
    # the longest list of a call, and its highest number
    ROWS = {0: (4000, 255), 1: (4000, 255), 3: (12, 255), 4: (12, 255), 8: (30, 29), 16: (12, 255)}

    def __init__(self):
        self.things = {"place": [], "car": [], "go": []}
        self.model = Model([], [], [])

    def put(self, things):
        self.things = things
        self.model = Model([t[1] for t in things["place"]], [t[1:] for t in things["car"]],
                           [t[1:] for t in things["go"]])

    def answer(self, call):
        numbers = call[1:1 + len(self.NUMBERS.get(call[0], ""))]
        row = call[2 + len(numbers):]
        if not self.as_told(call[0], numbers, row):
            return [-1]
        places = [n for n, kind in zip(numbers, self.NUMBERS.get(call[0], "")) if kind == "p"]
        if any(place >= len(self.things["place"]) for place in places):
            return [-4]
        return getattr(self, f"call_{call[0]}")(*numbers, *([row] if call[0] in self.ROWS else []))

    def as_told(self, kind, numbers, row):
        for number, letter in zip(numbers, self.NUMBERS.get(kind, "")):
            if abs(number) > self.HIGHEST[letter] or (number < 0 and letter != "m"):
                return False
        longest, highest = self.ROWS.get(kind, (0, 0))
        return len(row) <= longest and all(0 <= number <= highest for number in row)

    def word(self, words, behind, pattern):
        if not words:
            raise Fault(1, behind)
        word, at = words.pop(0)
        if not re.fullmatch(pattern, word):
            raise Fault(1, at)
        return word, at

    def read_line(self, things, words, behind):
        kind, first = self.word(words, behind, "place|car|go")
        if len(things[kind]) == self.ROOM[kind]:
            raise Fault(7, first)
        thing = []
        for part in self.FORMS[kind]:
            if part == 1000 and not words:
                thing.append(0)
                continue
            pattern = "[a-z][a-z0-9]{0,11}" if isinstance(part, str) else "0|[1-9][0-9]{0,5}"
            word, at = self.word(words, behind, pattern)
            thing.append(self.part(things, kind, thing, part, word, at))
        if words:
            raise Fault(1, words[0][1])
        things[kind].append(tuple(thing))

    def part(self, things, kind, thing, part, word, at):
        if part == "new":
            rivals = things["place"] if kind == "place" else things["car"] + things["go"]
            if word in [rival[0] for rival in rivals]:
                raise Fault(4, at)
            return word
        if isinstance(part, str):
            names = [place[0] for place in things["place"]]
            if word not in names:
                raise Fault(5, at)
            if part == "to" and names.index(word) == thing[1]:
                raise Fault(6, at)
            return names.index(word)
        if int(word) > part or (kind == "car" and int(word) == 0):
            raise Fault(3, at)
        if kind == "go" and len(thing) == 4 and int(word) <= thing[2]:
            raise Fault(8, at)
        return int(word)

    def read(self, things, text):
        things = {kind: list(things[kind]) for kind in things}
        at = 0
        try:
            for line in bytes(text).decode("latin-1").split("\n"):
                words = [(found.group(), at + found.start()) for found in re.finditer("[^ ]+", line)]
                at += len(line)
                if words:
                    self.read_line(things, words, at)
                at += 1
        except Fault as fault:
            return [1] + list(fault.args)
        self.put(things)
        return self.call_15()

    def call_0(self, text):
        return self.read({"place": [], "car": [], "go": []}, text)

    def call_1(self, text):
        return self.read(self.things, text)

    def call_2(self):
        names = [place[0] for place in self.things["place"]]
        lines = [f"place {n} {h}" if h else f"place {n}" for n, h in self.things["place"]]
        lines += [f"car {n} {names[a]} {names[b]} {long}" for n, a, b, long in self.things["car"]]
        lines += [f"go {n} {names[a]} {x} {names[b]} {y}" for n, a, x, b, y in self.things["go"]]
        return [0] + list("".join(line + "\n" for line in lines).encode())

    def departure(self, name):
        return [n for n, go in enumerate(self.things["go"]) if list(go[0].encode()) == name]

    def call_3(self, name):
        found = self.departure(name)
        if not found:
            return [-5]
        self.put({**self.things, "go": [go for n, go in enumerate(self.things["go"]) if n not in found]})
        return [0]

    def call_4(self, m, name):
        found = self.departure(name)
        if not found:
            return [-5]
        name, a, x, b, y = self.things["go"][found[0]]
        if x + m < 0 or y + m > 100000:
            return [-8]
        gone = list(self.things["go"])
        gone[found[0]] = (name, a, x + m, b, y + m)
        self.put({**self.things, "go": gone})
        return [0, x + m, y + m]

    def call_5(self, k, t, p, d):
        return told(self.model.sure(p, t, k, d))

    def call_6(self, k, t, p):
        return self.model.table(p, t, k)

    def call_7(self, k, t, p, d):
        return self.model.to_do(p, t, k, d)

    def call_8(self, k, t, p, d, cancelled):
        return self.model.play(p, t, k, d, cancelled)

    def call_9(self, k, limit, p, d):
        return self.model.last_start_by_halves(p, limit, k, d)

    def call_10(self, k, p, d):
        return self.model.profile(p, k, d)

    def call_11(self, k, t, p, d):
        return self.model.worst(p, t, k, d)

    def call_12(self, p, d):
        return self.model.by_cars(p, d)

    def call_13(self, k, t, limit, p):
        return self.model.who(p, t, k, limit)

    def call_14(self, t, limit, p, d):
        return self.model.stands(p, t, limit, d)

    def call_15(self):
        return [0] + [len(self.things[kind]) for kind in self.KINDS]

    def call_16(self, name):
        for number, kind in enumerate(self.KINDS):
            for place, thing in enumerate(self.things[kind]):
                if list(thing[0].encode()) == name:
                    return [0, number, place]
        return [-5]

    def call_17(self, k, d):
        return self.model.worths(k, d)
