"""Whole lists of 150 calls of all kinds, changes and wrong ones among them, held against slow reckonings."""

import collections
import random
import unittest

from helper import FAR, Slow, ask, chance_net, joined, net, row, wide_net
from surejourney.journeys import answers

SEEDS = range(60)
HEAVY = (8, 10, 11)
CHANGES = (0, 1, 3, 4)
# the first numbers that the calls of each place may answer
FIRST = {
    0: {0, 1, -1}, 1: {0, 1, -1}, 2: {0}, 3: {0, -1, -5}, 4: {0, -1, -5, -8}, 5: {0, -1, -4, -7}, 6: {0, -1, -4},
    7: {0, -1, -4, -7}, 8: {0, -1, -4}, 9: {0, -1, -4, -7}, 10: {0, -1, -4}, 11: {0, -1, -4, -7}, 12: {0, -1, -4, -7},
    13: {0, -1, -4}, 14: {0, -1, -4, -7}, 15: {0}, 16: {0, -1, -5}, 17: {0, -1, -4},
}
WORDS = ["place", "car", "go", "p0", "p1", "p2", "p3", "c0", "g0", "g1", "h0", "h1", "x", "A", "0", "1", "7", "40", "60",
         "1001", "100000", "100001", "01", "\n", "\n", " "]


class Maker:
    """Calls by chance; most of them are as told."""

    def __init__(self, seed):
        self.chance = random.Random(seed)
        self.seed = seed
        self.places = 8

    def model(self):
        self.seed += 1000
        made = (chance_net if self.chance.random() < 0.4 else wide_net)(self.seed)
        self.places = len(made.places)
        return made

    def number(self, letter):
        wrong = {"k": [-1, 4, FAR], "t": [-1, 100001, -FAR], "p": [-1, 8, FAR], "m": [-100001, 100001, FAR]}
        if self.chance.random() < 0.02:
            return self.chance.choice(wrong[letter])
        if letter == "k":
            return self.chance.choice([0, 0, 1, 1, 2, 3])
        if letter == "p":
            return self.chance.randrange(self.places if self.chance.random() < 0.97 else 8)
        if letter == "m":
            return self.chance.choice([-100000, -40, -10, -5, -1, 0, 1, 5, 10, 60, 99900, 100000])
        return self.chance.choice([0, 0, 0, 1, 5, 10, 12, 20, 30, 60, 61, 100, 150, 220, 400, 100000])

    def name(self):
        if self.chance.random() < 0.03:
            return self.chance.choice([[256], [-1], [97] * 13, [97] * 4000, [FAR]])
        letter = self.chance.choice("pcgggggh")
        return self.chance.choice([f"{letter}{self.chance.randrange(30)}"] * 12 + ["", "x", "\xff", "a" * 12])

    def line(self):
        kind = self.chance.choice(["place", "car", "go", "go", "go", "go"])
        name = f"{self.chance.choice('hhhhpcg')}{self.chance.randrange(30)}"
        a, b = [f"p{self.chance.randrange(self.places)}" for _ in range(2)]
        leaves = self.chance.randrange(0, 200)
        tail = {"place": self.chance.choice(["", " 0", " 7", " 1000"]), "car": f" {a} {b} {self.chance.randint(1, 99)}",
                "go": f" {a} {leaves} {b} {leaves + self.chance.randint(0, 40)}"}
        return f"{kind} {name}{tail[kind]}"

    def text(self, kind):
        if self.chance.random() < 0.05:
            return self.chance.choice([[256], [-1], [32] * 3999 + [FAR]])
        if self.chance.random() < 0.15:
            return " ".join(self.chance.choices(WORDS, k=self.chance.randint(0, 12)))
        lines = [self.model().text()] if kind == 0 else []
        return "\n".join(lines + [self.line() for _ in range(self.chance.choice([0, 1, 1, 2]))])

    def call(self, kind):
        numbers = [self.number(letter) for letter in Slow.NUMBERS.get(kind, "")]
        if kind in (0, 1):
            return [kind] + row(self.text(kind))
        if kind == 8:
            most = self.chance.choice([0, 2, 5, 15, 30, 31 if self.chance.random() < 0.2 else 3])
            highest = 30 if self.chance.random() < 0.03 else 29
            return [kind] + numbers + row([self.chance.randint(0, highest) for _ in range(most)])
        return [kind] + numbers + (row(self.name()) if kind in Slow.ROWS else [])

    def calls(self):
        made = [self.call(kind) for kind in self.chance.sample(range(18), 4)] + [net(self.model().text())]
        while len(made) < 150:
            full = sum(call[0] in HEAVY for call in made) == 25
            kinds = [kind for kind in range(1, 18) if not (full and kind in HEAVY)]
            kind = self.chance.choice(kinds)
            if kind in CHANGES and self.chance.random() < 0.1:
                kind = 0
            made.append(self.call(kind))
        return made


class Lists(unittest.TestCase):
    def test_each_call_as_told(self):
        seen = collections.defaultdict(set)
        for seed in SEEDS:
            calls = Maker(seed).calls()
            self.assertLessEqual(len(joined(calls)), 17000)
            slow = Slow()
            for number, (call, answer) in enumerate(zip(calls, ask(*calls), strict=True)):
                self.assertEqual(answer, slow.answer(call), (seed, number, call))
                seen[call[0]].add(answer[0])
        self.assertEqual(dict(seen), FIRST)

    def test_the_list_stays_as_it_is_and_nothing_is_kept(self):
        for seed in SEEDS[:20]:
            calls = joined(Maker(seed).calls())
            before = list(calls)
            first = answers(calls)
            self.assertEqual(calls, before)
            self.assertEqual(answers(calls), first)
            self.assertEqual(calls, before)
            self.assertEqual({type(number) for number in first}, {int})

    def test_one_by_one_as_together(self):
        """Behind the changes alone each asking call answers as it does in the whole list."""
        for seed in SEEDS[:6]:
            calls = Maker(seed).calls()
            together = ask(*calls)
            changes = []
            for call, answer in zip(calls, together, strict=True):
                self.assertEqual(ask(*changes, call)[-1], answer, seed)
                if call[0] in CHANGES:
                    changes.append(call)


if __name__ == "__main__":
    unittest.main()
