"""What else is asked: cars, who, stands, state, find, worths."""

import unittest

from helper import (
    FAR, FLIGHTS, HOURLY, add, ask, cars, find, last, net, shift, stands, state, sure, table, text, who, without, worths,
)

ROADS = "place a 100\nplace b 7\nplace c 100\nplace d 5\ncar x a b 20\ncar y b c 30\ncar z c a 1\n"


class Refused(unittest.TestCase):
    def check_refusals(self, whole_net, wrong_numbers, wrong_places, both):
        """Of wrong numbers and missing places, and that the first of them stands ahead."""
        for wrong in wrong_numbers + both:
            self.assertEqual(ask(wrong, net(whole_net), wrong)[::2], [[-1], [-1]], wrong)
        for wrong in wrong_places:
            self.assertEqual(ask(wrong, net(whole_net), wrong)[::2], [[-4], [-4]], wrong)


class Cars(Refused):
    def test_with_handling_between(self):
        asked = [cars(p, d) for p in range(3) for d in range(3)]
        self.assertEqual(ask(net(ROADS), *asked)[1:], [[0, n] for n in (0, 20, 57, 131, 0, 30, 1, 121, 0)])

    def test_the_shorter_way(self):
        self.assertEqual(last(net(ROADS), add("car w a c 56"), cars(0, 2)), [0, 56])
        self.assertEqual(last(net(ROADS), add("car w a c 58"), cars(0, 2)), [0, 57])
        self.assertEqual(last(net(ROADS), add("car w a b 19"), cars(0, 2)), [0, 56])

    def test_longest_way(self):
        names = "abcdefgh"
        chain = "".join(f"place {c} 1000\n" for c in names)
        chain += "".join(f"car c{i} {names[i]} {names[i + 1]} 10000\n" for i in range(7))
        self.assertEqual(ask(net(chain), cars(0, 7), cars(7, 0), cars(6, 7))[1:], [[0, 76000], [-7], [0, 10000]])

    def test_no_way(self):
        self.assertEqual(ask(net(ROADS), cars(0, 3), cars(3, 0), cars(3, 3))[1:], [[-7], [-7], [0, 0]])

    def test_departures_do_not_count(self):
        self.assertEqual(ask(net(FLIGHTS), cars(0, 2), cars(0, 3), cars(1, 3))[1:], [[-7], [0, 900], [-7]])

    def test_as_sure_without_departures(self):
        for p in range(4):
            for d in range(4):
                way, best, later = ask(net(ROADS), cars(p, d), sure(0, 0, p, d), sure(3, 1000, p, d))[1:]
                self.assertEqual(way, best)
                self.assertEqual(later, [-7] if way == [-7] else [0, 1000 + way[1]])

    def test_refusals(self):
        self.check_refusals(
            ROADS, [cars(-1, 0), cars(8, 0), cars(0, -1), cars(0, 8), cars(FAR, 0), cars(0, -FAR)],
            [cars(4, 4), cars(7, 7), cars(0, 4), cars(4, 0)], [cars(7, 8), cars(8, 7), cars(-1, 7)])
        self.assertEqual(last(cars(0, 0)), [-4])


class Who(Refused):
    def test_not_after_the_limit(self):
        for limit, places in ((4, []), (5, [0]), (44, [0]), (45, [0, 1]), (99, [0, 1]), (100, [0, 1, 2]),
                              (126, [0, 1, 2]), (127, [0, 1, 2, 3]), (100000, [0, 1, 2, 3])):
            self.assertEqual(last(net(FLIGHTS), who(0, 5, limit, 0)), [0, len(places)] + places)

    def test_with_k(self):
        for k, places in ((0, [0, 1, 2, 3]), (1, [0, 1, 2, 3]), (2, [0, 1, 3]), (3, [0, 1])):
            self.assertEqual(last(net(FLIGHTS), who(k, 5, 300, 0)), [0, len(places)] + places)
        self.assertEqual(last(net(FLIGHTS), who(3, 5, 905, 0)), [0, 3, 0, 1, 3])

    def test_there_itself(self):
        for k in range(4):
            self.assertEqual(ask(net(FLIGHTS), who(k, 100000, 100000, 3), who(k, 0, 0, 3), who(k, 1, 0, 3))[1:],
                             [[0, 1, 3], [0, 1, 3], [0, 0]])

    def test_one_place_and_no_departure(self):
        self.assertEqual(ask(net("place a"), who(0, 3, 3, 0), who(0, 3, 2, 0))[1:], [[0, 1, 0], [0, 0]])
        self.assertEqual(last(net(ROADS), who(3, 0, 57, 0)), [0, 3, 0, 1, 2])
        self.assertEqual(last(net(ROADS), who(3, 0, 56, 0)), [0, 2, 0, 1])

    def test_as_table_tells(self):
        for k in range(4):
            for p in range(4):
                for limit in (0, 50, 130, 300, 1000):
                    minutes, told = ask(net(FLIGHTS), table(k, 7, p), who(k, 7, limit, p))[1:]
                    places = [place for place, minute in enumerate(minutes[1:]) if -1 < minute <= limit]
                    self.assertEqual(told, [0, len(places)] + places)

    def test_refusals(self):
        self.check_refusals(
            FLIGHTS,
            [who(-1, 0, 0, 0), who(4, 0, 0, 0), who(0, -1, 0, 0), who(0, 100001, 0, 0), who(0, 0, -1, 0),
             who(0, 0, 100001, 0), who(0, 0, 0, -1), who(0, 0, 0, 8), who(0, 0, FAR, 0), who(0, 0, 0, -FAR)],
            [who(0, 0, 0, 4), who(3, 100000, 100000, 7)],
            [who(4, 0, 0, 7), who(0, -1, 0, 7), who(0, 0, 100001, 7), who(0, 0, -1, 4)])
        self.assertEqual(last(who(0, 0, 0, 0)), [-4])


class Stands(Refused):
    def test_the_greatest_k(self):
        for limit, answer in ((0, [-7]), (126, [-7]), (127, [0, 0]), (156, [0, 0]), (157, [0, 1]), (299, [0, 1]),
                              (300, [0, 2]), (899, [0, 2]), (900, [0, 3]), (100000, [0, 3])):
            self.assertEqual(last(net(FLIGHTS), stands(0, limit, 0, 3)), answer)

    def test_later(self):
        for minute, answer in ((60, [0, 2]), (61, [0, 1]), (91, [0, 0]), (200, [0, 0]), (201, [-7])):
            self.assertEqual(last(net(FLIGHTS), stands(minute, 300, 1, 3)), answer)

    def test_p_is_d(self):
        self.assertEqual(ask(net(FLIGHTS), stands(5, 5, 2, 2), stands(6, 5, 2, 2), stands(0, 0, 0, 0))[1:],
                         [[0, 3], [-7], [0, 3]])
        self.assertEqual(last(net("place a"), stands(100000, 100000, 0, 0)), [0, 3])

    def test_nothing_sure_and_no_departure(self):
        self.assertEqual(last(net(FLIGHTS), stands(0, 100000, 3, 0)), [-7])
        self.assertEqual(ask(net(ROADS), stands(0, 57, 0, 2), stands(0, 56, 0, 2), stands(0, 100000, 0, 3))[1:],
                         [[0, 3], [-7], [-7]])

    def test_two_departures_of_one_minute(self):
        pair = "place a\nplace b\ngo f a 10 b 20\ngo g a 10 b 15\n"
        self.assertEqual(last(net(pair), stands(0, 100, 0, 1)), [0, 0])
        self.assertEqual(last(net(pair), shift(1, "f"), stands(0, 100, 0, 1)), [0, 1])

    def test_as_sure_tells(self):
        for t in (0, 10, 40, 61, 150):
            for limit in (100, 127, 157, 300, 905):
                for p in range(2):
                    answers = ask(net(FLIGHTS), stands(t, limit, p, 3), *[sure(k, t, p, 3) for k in range(4)])[1:]
                    good = [k for k, told in enumerate(answers[1:]) if told[0] == 0 and told[1] <= limit]
                    self.assertEqual(answers[0], [0, good[-1]] if good else [-7])

    def test_refusals(self):
        self.check_refusals(
            FLIGHTS,
            [stands(-1, 0, 0, 1), stands(100001, 0, 0, 1), stands(0, -1, 0, 1), stands(0, 100001, 0, 1),
             stands(0, 0, -1, 1), stands(0, 0, 8, 1), stands(0, 0, 0, -1), stands(0, 0, 0, 8), stands(FAR, 0, 0, 1),
             stands(0, 0, 0, -FAR)],
            [stands(0, 0, 4, 0), stands(0, 0, 0, 4), stands(100000, 0, 7, 7)],
            [stands(-1, 0, 7, 7), stands(0, 100001, 7, 0), stands(0, 0, 7, 8), stands(0, 0, 8, 7)])
        self.assertEqual(last(stands(0, 0, 0, 0)), [-4])
        self.assertEqual(last(net("place a\nplace b"), stands(0, 0, 0, 1)), [-7])


class State(unittest.TestCase):
    def test_without_anything(self):
        self.assertEqual(last(state()), [0, 0, 0, 0])
        self.assertEqual(last(net(FLIGHTS), net(""), state()), [0, 0, 0, 0])

    def test_behind_each_change(self):
        asked = [net(FLIGHTS), state(), without("f2"), state(), shift(5, "f1"), state(), add("place e\ncar c e home 1"),
                 state(), add("go f2 e 0 home 1"), state()]
        self.assertEqual(ask(*asked)[1::2], [[0, 4, 3, 3], [0, 4, 3, 2], [0, 4, 3, 2], [0, 5, 4, 2], [0, 5, 4, 3]])

    def test_nothing_changes_with_a_fault_or_a_refusal(self):
        asked = [net(FLIGHTS), net("place"), add("place e\nno"), without("x"), shift(-61, "f1"), state(), text()]
        answers = ask(*asked)
        self.assertEqual(answers[1:6], [[1, 1, 5], [1, 1, 8], [-5], [-8], [0, 4, 3, 3]])
        self.assertEqual(answers[6], [0] + list(FLIGHTS.encode()))


class Find(unittest.TestCase):
    def check(self, answers, whole_net, *calls):
        """The names and what's answered for each, behind these calls."""
        asked = [find(name) for name in answers]
        self.assertEqual(ask(net(whole_net), *calls, *asked)[1 + len(calls):], list(answers.values()))

    def test_each_kind(self):
        self.check({"home": [0, 0, 0], "goal": [0, 0, 3], "taxi": [0, 1, 0], "slow": [0, 1, 2], "f1": [0, 2, 0],
                    "f3": [0, 2, 2]}, FLIGHTS)

    def test_a_place_stands_ahead(self):
        both = "place a\nplace b\nplace e\ncar b a b 1\ncar d b a 2\ngo c a 0 b 1\ngo e a 0 b 1\ngo a b 0 a 1\n"
        self.check({"a": [0, 0, 0], "b": [0, 0, 1], "e": [0, 0, 2], "d": [0, 1, 1], "c": [0, 2, 0]}, both)

    def test_numbers_behind_without(self):
        self.check({"f1": [-5], "f2": [0, 2, 0], "f3": [0, 2, 1]}, FLIGHTS, without("f1"))
        self.check({"f1": [0, 2, 2], "f2": [0, 2, 0]}, FLIGHTS, without("f1"), add("go f1 home 1 port 2"))
        self.check({"f1": [0, 1, 3]}, FLIGHTS, without("f1"), add("car f1 home port 2"))
        self.check({"f1": [0, 0, 4]}, FLIGHTS, add("place f1"))

    def test_longest_name(self):
        self.check({"abcdefghijkl": [0, 0, 0], "abcdefghijk": [-5]}, "place abcdefghijkl")

    def test_no_such_name(self):
        for name in ("", "x", "hom", "homes", "Home", " ", "f", "\xff", "\x00", "............"):
            self.check({name: [-5]}, FLIGHTS)
            self.assertEqual(last(find(name)), [-5])

    def test_not_as_told(self):
        for name in ("abcdefghijklm", [256], [-1], [104, FAR], [-FAR], [104] * 4000):
            self.assertEqual(ask(find(name), net(FLIGHTS), find(name))[::2], [[-1], [-1]])


class Worths(Refused):
    def test_each_departure_in_order(self):
        asked = [worths(k, 3) for k in range(4)]
        self.assertEqual(ask(net(FLIGHTS), *asked)[1:],
                         [[0, 127, 157, 300], [0, 157, 300, -1], [0, 300, -1, -1], [0, -1, -1, -1]])
        self.assertEqual(ask(net(FLIGHTS), worths(0, 2), worths(1, 2))[1:], [[0, 100, 130, -1], [0, 130, -1, -1]])
        self.assertEqual(last(net(FLIGHTS), worths(0, 1)), [0, -1, -1, -1])

    def test_at_the_goal_without_handling(self):
        self.assertEqual(last(net(HOURLY.replace("place b", "place b 9")), worths(0, 1)), [0, 50, 110, 170, 230])
        self.assertEqual(last(net(HOURLY), worths(3, 1)), [0, 230, -1, -1, -1])

    def test_handling_where_it_goes_on(self):
        self.assertEqual(last(net("place a\nplace b 7\nplace c 9\ngo f a 1 b 2\ncar r b c 5"), worths(0, 2)), [0, 14])

    def test_from_the_goal_itself(self):
        """Cancelled one is at the goal a minute later; if it goes, one must come back."""
        back = "place a 9\nplace b 2\ngo f a 10 b 20\ncar c b a 3\n"
        self.assertEqual(ask(net(back), *[worths(k, 0) for k in range(4)])[1:], [[0, 25]] * 4)
        self.assertEqual(ask(net("place a\nplace b\ngo f a 10 b 20"), worths(0, 0), worths(3, 0))[1:], [[0, -1]] * 2)

    def test_the_greater_of_the_two(self):
        lines = "place a\nplace b\ngo f a 10 b 50\ngo g a 11 b 20\ngo h a 100 b 200\n"
        self.assertEqual(ask(net(lines), *[worths(k, 1) for k in range(3)])[1:],
                         [[0, 50, 20, 200], [0, 50, 200, -1], [0, 200, -1, -1]])

    def test_two_departures_of_one_minute(self):
        pair = "place a\nplace b\ngo f a 10 b 20\ngo g a 10 b 15\ngo h a 11 b 30\n"
        self.assertEqual(ask(net(pair), worths(0, 1), worths(1, 1), worths(2, 1))[1:],
                         [[0, 20, 15, 30], [0, 30, 30, -1], [0, -1, -1, -1]])

    def test_no_departure(self):
        self.assertEqual(ask(net(ROADS), worths(0, 0), worths(3, 3))[1:], [[0], [0]])
        self.assertEqual(last(net(HOURLY), *[without(f"g{i}") for i in range(4)], worths(1, 1)), [0])

    def test_behind_changes(self):
        self.assertEqual(ask(net(HOURLY), without("g1"), worths(1, 1), shift(-30, "g3"), worths(1, 1))[2::2],
                         [[0, 170, 230, -1], [0, 170, 200, -1]])

    def test_as_sure_tells(self):
        """From a place at a minute what's sure is the least worth of those still in time, where there's no car."""
        for k in range(4):
            for minute in (0, 1, 60, 61, 121, 181):
                told, best = ask(net(HOURLY), worths(k, 1), sure(k, minute, 0, 1))[1:]
                open_ones = [w for i, w in enumerate(told[1:]) if 60 * i >= minute and w >= 0]
                self.assertEqual(best, [0, min(open_ones)] if open_ones else [-7])

    def test_refusals(self):
        self.check_refusals(
            FLIGHTS, [worths(-1, 0), worths(4, 0), worths(0, -1), worths(0, 8), worths(FAR, 0), worths(0, -FAR)],
            [worths(0, 4), worths(3, 7)], [worths(4, 7), worths(-1, 4)])
        self.assertEqual(last(worths(0, 0)), [-4])


if __name__ == "__main__":
    unittest.main()
