"""The promises over many small nets, each held against a slow reckoning by the document's words."""

import itertools
import random
import unittest

from helper import (
    NONE, Model, ask, cars, chance_net, last, last_start, net, play, profile, stands, sure, table, text, to_do, told, who,
    worst, worths,
)

SEEDS = range(150)


def starts(model, seed, count):
    """Some k, t, p, d; early minutes more often, for there the departures are still to come."""
    chance = random.Random(seed + 5000)
    places = range(len(model.places))
    return [
        (chance.randint(0, 3), chance.choice([0, 1, 2, 5, 9, 15, 28]), chance.choice(places), chance.choice(places))
        for _ in range(count)
    ]


def plays(model, k, t, p, d):
    """The journeys with each choice of at most k departures cancelled; a list has at most 25 plays."""
    numbers = range(len(model.departures))
    choices = [c for size in range(k + 1) for c in itertools.combinations(numbers, size)]
    answers = []
    for at in range(0, len(choices), 25):
        answers += ask(net(model.text()), *[play(k, t, p, d, c) for c in choices[at:at + 25]])[1:]
    return answers


class Slowly(unittest.TestCase):
    def test_sure_is_the_best_of_all_choices(self):
        for seed in SEEDS:
            model = chance_net(seed)
            asked = starts(model, seed, 30)
            self.assertEqual(ask(net(model.text()), *[sure(*a) for a in asked])[1:],
                             [told(model.game(p, t, k, d)) for k, t, p, d in asked], seed)

    def test_table_tells_the_same_as_sure(self):
        for seed in SEEDS:
            model = chance_net(seed)
            for k, t, p, d in starts(model, seed, 4):
                goals = range(len(model.places))
                answers = ask(net(model.text()), table(k, t, p), *[sure(k, t, p, d) for d in goals])[1:]
                self.assertEqual(answers[0], [0] + [-1 if a == [-7] else a[1] for a in answers[1:]], seed)

    def test_what_to_do(self):
        for seed in SEEDS:
            model = chance_net(seed)
            asked = starts(model, seed, 30)
            self.assertEqual(ask(net(model.text()), *[to_do(*a) for a in asked])[1:],
                             [model.to_do(p, t, k, d) for k, t, p, d in asked], seed)

    def test_play(self):
        for seed in SEEDS:
            model = chance_net(seed)
            chance = random.Random(seed + 9000)
            asked = [a + (chance.sample(range(30), chance.choice([0, 3, 10, 20])),) for a in starts(model, seed, 20)]
            self.assertEqual(ask(net(model.text()), *[play(*a) for a in asked])[1:],
                             [model.play(p, t, k, d, c) for k, t, p, d, c in asked], seed)


    def test_last_start_minute_for_minute(self):
        for seed in SEEDS:
            model = chance_net(seed)
            chance = random.Random(seed + 7000)
            asked = [(k, chance.choice([0, 5, 12, 20, 31, 38, 60, 90]), p, d) for k, t, p, d in starts(model, seed, 20)]
            self.assertEqual(ask(net(model.text()), *[last_start(*a) for a in asked])[1:],
                             [model.last_start(p, limit, k, d) for k, limit, p, d in asked], seed)

    def test_profile(self):
        for seed in SEEDS:
            model = chance_net(seed)
            asked = [(k, p, d) for k, t, p, d in starts(model, seed, 20)]
            self.assertEqual(ask(net(model.text()), *[profile(*a) for a in asked])[1:],
                             [model.profile(p, k, d) for k, p, d in asked], seed)

    def test_worst(self):
        for seed in SEEDS:
            model = chance_net(seed)
            asked = starts(model, seed, 24)
            self.assertEqual(ask(net(model.text()), *[worst(*a) for a in asked])[1:],
                             [model.worst(p, t, k, d) for k, t, p, d in asked], seed)

    def test_worths_by_the_document_and_by_single_steps(self):
        for seed in SEEDS:
            model = chance_net(seed)
            asked = [(k, d) for k in range(4) for d in range(len(model.places))]
            answers = ask(net(model.text()), *[worths(*a) for a in asked])[1:]
            self.assertEqual(answers, [model.worths(*a) for a in asked], seed)
            for (k, d), answer in zip(asked, answers):
                for (a, leaves, b, comes), worth in zip(model.departures, answer[1:], strict=True):
                    slowly = model.game(b, comes if b == d else comes + model.places[b], k, d)
                    if k > 0:
                        slowly = max(slowly, model.game(a, leaves + 1, k - 1, d))
                    self.assertEqual(worth, -1 if slowly == NONE else slowly, (seed, k, d))


class Together(unittest.TestCase):
    """The calls held against one another."""

    def test_who_and_stands_tell_as_table_and_sure(self):
        for seed in SEEDS:
            model = chance_net(seed)
            for k, t, p, d in starts(model, seed, 4):
                for limit in (t, 14, 25, 60):
                    rising = [sure(n, t, p, d) for n in range(4)]
                    answers = ask(net(model.text()), table(k, t, p), who(k, t, limit, p), stands(t, limit, p, d), *rising)
                    places = [n for n, minute in enumerate(answers[1][1:]) if -1 < minute <= limit]
                    self.assertEqual(answers[2], [0, len(places)] + places, seed)
                    good = [n for n, a in enumerate(answers[4:]) if a[0] == 0 and a[1] <= limit]
                    self.assertEqual(answers[3], [0, max(good)] if good else [-7], seed)

    def test_cars_tell_as_sure_without_departures(self):
        for seed in SEEDS:
            model = chance_net(seed)
            roads = net(Model(model.places, model.cars, []).text())
            pairs = list(itertools.product(range(len(model.places)), repeat=2))
            ways = ask(net(model.text()), *[cars(*pair) for pair in pairs])[1:]
            self.assertEqual(ways, ask(roads, *[cars(*pair) for pair in pairs])[1:])
            for k in range(4):
                self.assertEqual(ways, ask(roads, *[sure(k, 0, *pair) for pair in pairs])[1:], seed)

    def test_worths_tell_as_sure(self):
        """From a departure's place at its minute what's sure is never later than its worth."""
        for seed in SEEDS:
            model = chance_net(seed)
            for k, t, p, d in starts(model, seed, 3):
                answers = ask(net(model.text()), worths(k, d), *[sure(k, go[1], go[0], d) for go in model.departures])
                for worth, best in zip(answers[1][1:], answers[2:], strict=True):
                    self.assertTrue(worth == -1 or (best[0] == 0 and best[1] <= worth), seed)

    def test_profile_tells_as_sure(self):
        """Each minute at which what's sure isn't by cars alone, and is lost a minute later; and no other one."""
        for seed in SEEDS:
            model = chance_net(seed)
            for k, t, p, d in starts(model, seed, 3):
                answers = ask(net(model.text()), profile(k, p, d), cars(p, d), *[sure(k, n, p, d) for n in range(40)])
                way = NONE if answers[2] == [-7] else answers[2][1]
                minutes = [NONE if a == [-7] else a[1] for a in answers[3:]]
                steps = [n for n in range(39) if minutes[n] < min(NONE, way + n) and minutes[n + 1] > minutes[n]]
                expected = [number for n in steps for number in (n, minutes[n])]
                self.assertEqual(answers[1], [0, len(steps)] + expected, seed)


class Promises(unittest.TestCase):
    def test_1_play_comes_by_what_is_sure(self):
        lessened = 0
        for seed in range(100):
            model = chance_net(seed)
            for k, t, p, d in starts(model, seed, 4):
                minute = last(net(model.text()), sure(k, t, p, d))
                if minute == [-7]:
                    continue
                comes = [a[1] for a in plays(model, k, t, p, d)]
                self.assertTrue(all(t <= c <= minute[1] for c in comes), (seed, k, t, p, d))
                # no earlier minute would have been sure, so some play comes just then
                self.assertEqual(max(comes), minute[1], (seed, k, t, p, d))
                lessened += min(comes) < minute[1]
        self.assertGreater(lessened, 20)

    def test_2_in_the_worst_case_one_comes_just_then(self):
        lost = 0
        for seed in SEEDS:
            model = chance_net(seed)
            for k, t, p, d in starts(model, seed, 10):
                best, case = ask(net(model.text()), sure(k, t, p, d), worst(k, t, p, d))[1:]
                self.assertEqual(case[:2], best, seed)
                if best == [-7]:
                    continue
                self.assertEqual(case[2], len(case[3:]))
                self.assertLessEqual(case[2], k)
                journey = last(net(model.text()), play(k, t, p, d, case[3:]))
                cancelled = [journey[at + 1] for at in range(3, len(journey), 3) if journey[at] == 3]
                self.assertEqual((journey[1], cancelled), (best[1], case[3:]), (seed, k, t, p, d))
                lost += case[2]
        self.assertGreater(lost, 100)

    def test_3_more_cancelled_or_later_is_never_earlier(self):
        for seed in SEEDS:
            model = chance_net(seed)
            for k, t, p, d in starts(model, seed, 3):
                rising = [sure(n, t, p, d) for n in range(4)]
                later = [sure(k, minute, p, d) for minute in range(36)]
                answers = [a[1] if a[0] == 0 else NONE for a in ask(net(model.text()), *rising, *later)[1:]]
                self.assertEqual(answers[:4], sorted(answers[:4]), seed)
                self.assertEqual(answers[4:], sorted(answers[4:]), seed)

    def test_4_in_time_from_the_last_start_and_from_no_later_minute(self):
        found = 0
        for seed in SEEDS:
            model = chance_net(seed)
            for k, t, p, d in starts(model, seed, 5):
                for limit in (0, 20, 33, 70):
                    told_last = last(net(model.text()), last_start(k, limit, p, d))
                    minutes = ask(net(model.text()), *[sure(k, n, p, d) for n in range(limit + 2)])[1:]
                    good = [n for n, a in enumerate(minutes) if a[0] == 0 and a[1] <= limit]
                    self.assertEqual(told_last, [0, good[-1]] if good else [-7], seed)
                    self.assertEqual(good, list(range(len(good))))
                    found += bool(good) and p != d
        self.assertGreater(found, 100)

    def test_5_a_net_written_is_read_as_the_same(self):
        for seed in SEEDS:
            model = chance_net(seed)
            first = ask(net(model.text()), text())
            again = ask(net(first[1][1:]), text())
            self.assertEqual(first, again)
            asked = [to_do(*a) for a in starts(model, seed, 10)] + [worst(*a) for a in starts(model, seed, 10)]
            self.assertEqual(ask(net(model.text()), *asked), ask(net(first[1][1:]), *asked))


if __name__ == "__main__":
    unittest.main()
