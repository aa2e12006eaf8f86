"""The promises over many small nets, each held against a slow reckoning by the document's words."""

import itertools
import random
import unittest

from helper import NONE, ask, chance_net, last, net, play, sure, table, text, to_do

SEEDS = range(150)


def starts(model, seed, count):
    """Some k, t, p, d; early minutes more often, for there the departures are still to come."""
    chance = random.Random(seed + 5000)
    places = range(len(model.places))
    return [
        (chance.randint(0, 3), chance.choice([0, 1, 2, 5, 9, 15, 28]), chance.choice(places), chance.choice(places))
        for _ in range(count)
    ]


def told(minute):
    return [-7] if minute == NONE else [0, minute]


def plays(model, k, t, p, d):
    """The journeys with each choice of at most k departures cancelled; a list has at most 25 plays."""
    numbers = range(len(model.departures))
    choices = [c for size in range(k + 1) for c in itertools.combinations(numbers, size)]
    answers = []
    for at in range(0, len(choices), 25):
        answers += ask(net(model.text()), *[play(k, t, p, d, c) for c in choices[at:at + 25]])[1:]
    return answers


class Slowly(unittest.TestCase):
    def test_sure_is_the_best_of_all_choices(self):
        for seed in SEEDS:
            model = chance_net(seed)
            asked = starts(model, seed, 30)
            self.assertEqual(ask(net(model.text()), *[sure(*a) for a in asked])[1:],
                             [told(model.game(p, t, k, d)) for k, t, p, d in asked], seed)

    def test_table_tells_the_same_as_sure(self):
        for seed in SEEDS:
            model = chance_net(seed)
            for k, t, p, d in starts(model, seed, 4):
                goals = range(len(model.places))
                answers = ask(net(model.text()), table(k, t, p), *[sure(k, t, p, d) for d in goals])[1:]
                self.assertEqual(answers[0], [0] + [-1 if a == [-7] else a[1] for a in answers[1:]], seed)

    def test_what_to_do(self):
        for seed in SEEDS:
            model = chance_net(seed)
            asked = starts(model, seed, 30)
            self.assertEqual(ask(net(model.text()), *[to_do(*a) for a in asked])[1:],
                             [model.to_do(p, t, k, d) for k, t, p, d in asked], seed)

    def test_play(self):
        for seed in SEEDS:
            model = chance_net(seed)
            chance = random.Random(seed + 9000)
            asked = [a + (chance.sample(range(30), chance.choice([0, 3, 10, 20])),) for a in starts(model, seed, 20)]
            self.assertEqual(ask(net(model.text()), *[play(*a) for a in asked])[1:],
                             [model.play(p, t, k, d, c) for k, t, p, d, c in asked], seed)


class Promises(unittest.TestCase):
    def test_1_play_comes_by_what_is_sure(self):
        lessened = 0
        for seed in range(100):
            model = chance_net(seed)
            for k, t, p, d in starts(model, seed, 4):
                minute = last(net(model.text()), sure(k, t, p, d))
                if minute == [-7]:
                    continue
                comes = [a[1] for a in plays(model, k, t, p, d)]
                self.assertTrue(all(t <= c <= minute[1] for c in comes), (seed, k, t, p, d))
                # no earlier minute would have been sure, so some play comes just then
                self.assertEqual(max(comes), minute[1], (seed, k, t, p, d))
                lessened += min(comes) < minute[1]
        self.assertGreater(lessened, 20)

    def test_3_more_cancelled_or_later_is_never_earlier(self):
        for seed in SEEDS:
            model = chance_net(seed)
            for k, t, p, d in starts(model, seed, 3):
                rising = [sure(n, t, p, d) for n in range(4)]
                later = [sure(k, minute, p, d) for minute in range(36)]
                answers = [a[1] if a[0] == 0 else NONE for a in ask(net(model.text()), *rising, *later)[1:]]
                self.assertEqual(answers[:4], sorted(answers[:4]), seed)
                self.assertEqual(answers[4:], sorted(answers[4:]), seed)

    def test_5_a_net_written_is_read_as_the_same(self):
        for seed in SEEDS:
            model = chance_net(seed)
            first = ask(net(model.text()), text())
            again = ask(net(first[1][1:]), text())
            self.assertEqual(first, again)
            asked = [to_do(*a) for a in starts(model, seed, 10)]
            self.assertEqual(ask(net(model.text()), *asked), ask(net(first[1][1:]), *asked))


if __name__ == "__main__":
    unittest.main()
