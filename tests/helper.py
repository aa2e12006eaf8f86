"""What the tests share: how calls are written down, nets by chance, and slow ways to reckon the same."""

import functools
import itertools
import random

from surejourney.journeys import answers

NONE = 10 ** 12


def row(numbers):
    """A list as it lies in the calls; a text stands for its bytes."""
    if isinstance(numbers, str):
        numbers = list(numbers.encode("latin-1"))
    return [len(numbers)] + list(numbers)


def net(text):
    return [0] + row(text)


def add(text):
    return [1] + row(text)


def text():
    return [2]


def without(name):
    return [3] + row(name)


def shift(minutes, name):
    return [4, minutes] + row(name)


def sure(k, t, p, d):
    return [5, k, t, p, d]


def table(k, t, p):
    return [6, k, t, p]


def to_do(k, t, p, d):
    return [7, k, t, p, d]


def play(k, t, p, d, cancelled=()):
    return [8, k, t, p, d] + row(cancelled)


def parted(told):
    """The answers of the calls, each a list of its own."""
    parts = []
    at = 0
    while at < len(told):
        parts.append(told[at + 1:at + 1 + told[at]])
        assert len(parts[-1]) == told[at] >= 1
        at += 1 + told[at]
    return parts


def ask(*calls):
    return parted(answers([number for call in calls for number in call]))


def last(*calls):
    return ask(*calls)[-1]


def written(*calls):
    """The net behind these calls, as text."""
    answer = last(*calls, text())
    assert answer[0] == 0
    return bytes(answer[1:]).decode("latin-1")


class Model:
    """A net as plain tuples; each reckoning follows the document's words, however slow."""

    def __init__(self, places, cars, departures):
        self.places = places          # handling
        self.cars = cars              # from, to, long
        self.departures = departures  # from, dep, to, arr

    def text(self):
        lines = [f"place p{i} {h}" for i, h in enumerate(self.places)]
        lines += [f"car c{i} p{a} p{b} {n}" for i, (a, b, n) in enumerate(self.cars)]
        lines += [f"go g{i} p{a} {x} p{b} {y}" for i, (a, x, b, y) in enumerate(self.departures)]
        return "\n".join(lines)

    @functools.lru_cache(maxsize=None)
    def ways(self, p, d):
        """Every way by cars from p to d that enters no place twice: minutes till one comes, and its first car."""
        found = []
        stack = [(p, 0, (p,), None)]
        while stack:
            here, spent, seen, first = stack.pop()
            for number, (a, b, long) in enumerate(self.cars):
                if a != here or b in seen:
                    continue
                begun = number if first is None else first
                if b == d:
                    found.append((spent + long, begun))
                else:
                    stack.append((b, spent + long + self.places[b], seen + (b,), begun))
        return found

    def shortest(self, p, d):
        """The fewest minutes and the first car in order that begins such a way."""
        if p == d:
            return 0, None
        return min(self.ways(p, d), default=(NONE, None))

    def ready(self, p, d):
        return 0 if p == d else self.shortest(p, d)[0] + self.places[d]

    @functools.lru_cache(maxsize=None)
    def game(self, p, t, k, d):
        """What's sure by single steps: each car and each departure from here, the worst of what may come of it."""
        if p == d:
            return t
        if t > self.end():
            return NONE
        best = NONE
        for a, b, long in self.cars:
            if a == p:
                best = min(best, self.game(b, t + long + (0 if b == d else self.places[b]), k, d))
        for a, leaves, b, comes in self.departures:
            if a == p and leaves >= t:
                worst = self.game(b, comes + (0 if b == d else self.places[b]), k, d)
                if k > 0:
                    worst = max(worst, self.game(p, leaves + 1, k - 1, d))
                best = min(best, worst)
        return best

    def end(self):
        """No way that's worth its while goes on for longer."""
        cars = sum(long for a, b, long in self.cars) + sum(self.places)
        return max([40] + [go[3] for go in self.departures]) + 2 * cars + 1

    @functools.lru_cache(maxsize=None)
    def worth(self, number, k, d):
        origin, leaves, end, comes = self.departures[number]
        going = comes if end == d else self.sure(end, comes + self.places[end], k, d)
        return going if k == 0 else max(going, self.sure(origin, leaves + 1, k - 1, d))

    def in_time(self, p, t):
        return [n for n, go in enumerate(self.departures) if t + self.ready(p, go[0]) <= go[1]]

    @functools.lru_cache(maxsize=None)
    def sure(self, p, t, k, d):
        if p == d:
            return t
        return min([NONE, t + self.shortest(p, d)[0]] + [self.worth(n, k, d) for n in self.in_time(p, t)])

    def to_do(self, p, t, k, d):
        if p == d:
            return [0, 0, 0]
        best = self.sure(p, t, k, d)
        if best == NONE:
            return [-7]
        minutes, car = self.shortest(p, d)
        if t + minutes == best:
            return [0, 1, car]
        good = [(self.departures[n][1], n) for n in self.in_time(p, t) if self.worth(n, k, d) == best]
        number = min(good)[1]
        origin = self.departures[number][0]
        return [0, 2, number] if origin == p else [0, 1, self.shortest(p, origin)[1]]

    def play(self, p, t, k, d, cancelled):
        steps = []
        while p != d and self.sure(p, t, k, d) != NONE:
            told, kind, number = self.to_do(p, t, k, d)
            if kind == 2 and number in cancelled:
                steps += [3, number, self.departures[number][1]]
                t = self.departures[number][1] + 1
                k = max(0, k - 1)
                continue
            if kind == 2:
                origin, leaves, p, comes = self.departures[number]
                steps += [2, number, leaves]
            else:
                origin, end, long = self.cars[number]
                steps += [1, number, t]
                p = end
                comes = t + long
            t = comes if p == d else comes + self.places[p]
        return [0, t if p == d else -1, len(steps) // 3] + steps


def chance_net(seed):
    """A small net, crowded so that ties, handling and cancelled departures matter."""
    chance = random.Random(seed)
    places = [chance.choice([0, 0, 1, 2, 3]) for _ in range(chance.randint(2, 4))]
    pairs = list(itertools.permutations(range(len(places)), 2))
    cars = [chance.choice(pairs) + (chance.choice([1, 2, 4, 9, 20, 40]),) for _ in range(chance.randint(0, 4))]
    departures = []
    for _ in range(chance.randint(2, 12)):
        a, b = chance.choice(pairs)
        leaves = chance.randint(0, 30)
        departures.append((a, leaves, b, leaves + chance.choice([1, 1, 2, 5, 8])))
    return Model(places, cars, departures)
