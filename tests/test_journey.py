"""What to do, and journeys: next and play."""

import unittest

from helper import FAR, FLIGHTS, HOURLY, last, net, play, to_do


class Next(unittest.TestCase):
    def test_at_the_goal(self):
        for k in range(4):
            self.assertEqual(last(net(FLIGHTS), to_do(k, 100000, 3, 3)), [0, 0, 0])

    def test_a_car_to_a_departure(self):
        for k in range(3):
            self.assertEqual(last(net(FLIGHTS), to_do(k, 0, 0, 3)), [0, 1, 0])

    def test_cars_alone(self):
        self.assertEqual(last(net(FLIGHTS), to_do(3, 0, 0, 3)), [0, 1, 2])
        self.assertEqual(last(net(FLIGHTS), to_do(0, 0, 2, 3)), [0, 1, 1])

    def test_waiting(self):
        for k, minute, number in ((0, 0, 0), (0, 60, 0), (0, 61, 1), (0, 90, 1), (0, 91, 2), (1, 0, 0), (1, 61, 1)):
            self.assertEqual(last(net(FLIGHTS), to_do(k, minute, 1, 3)), [0, 2, number])

    def test_nothing_sure(self):
        self.assertEqual(last(net(FLIGHTS), to_do(1, 91, 1, 3)), [-7])
        self.assertEqual(last(net(FLIGHTS), to_do(0, 0, 3, 0)), [-7])

    def test_cars_stand_ahead_of_a_departure_as_good(self):
        tie = "place a\nplace b\ngo f a 0 b 10\ncar c a b {}\n"
        self.assertEqual(last(net(tie.format(10)), to_do(0, 0, 0, 1)), [0, 1, 0])
        self.assertEqual(last(net(tie.format(11)), to_do(0, 0, 0, 1)), [0, 2, 0])

    def test_of_cars_as_good_the_one_told_first(self):
        roads = "place a\nplace b 2\nplace c\ncar y b c 4\ncar l a c 11\ncar x a b 4\ncar z a c 10\n"
        self.assertEqual(last(net(roads), to_do(0, 0, 0, 2)), [0, 1, 2])
        self.assertEqual(last(net(roads.replace("x a b 4", "x a b 5")), to_do(0, 0, 0, 2)), [0, 1, 3])
        self.assertEqual(last(net(roads.replace("l a c 11", "l a c 10")), to_do(0, 0, 0, 2)), [0, 1, 1])

    def test_of_cars_to_a_departure_the_one_told_first(self):
        roads = ("place a 9\nplace b 3\nplace c 2\nplace d\ncar s a c 30\ncar x b c 5\ncar y a b {}\ncar z a c {}\n"
                 "go f c 40 d 50\n")
        self.assertEqual(last(net(roads.format(2, 10)), to_do(0, 0, 0, 3)), [0, 1, 2])
        self.assertEqual(last(net(roads.format(3, 10)), to_do(0, 0, 0, 3)), [0, 1, 3])
        self.assertEqual(last(net(roads.format(3, 11)), to_do(0, 0, 0, 3)), [0, 1, 2])

    def test_of_departures_as_good_the_one_that_goes_first(self):
        same = "place a\nplace b\ngo f a 5 b 20\ngo g a 3 b 20\ngo h a 3 b 20\ngo i a 2 b 21\n"
        self.assertEqual(last(net(same), to_do(0, 0, 0, 1)), [0, 2, 1])
        self.assertEqual(last(net(same), to_do(0, 4, 0, 1)), [0, 2, 0])
        self.assertEqual(last(net(same), to_do(1, 0, 0, 1)), [0, 2, 1])

    def test_the_first_one_may_be_elsewhere(self):
        away = "place a\nplace b 1\nplace c\ncar r a b 2\ngo f a 5 c 20\ngo g b {} c 20\n"
        self.assertEqual(last(net(away.format(4)), to_do(0, 0, 0, 2)), [0, 1, 0])
        self.assertEqual(last(net(away.format(4)), to_do(0, 1, 0, 2)), [0, 1, 0])
        self.assertEqual(last(net(away.format(4)), to_do(0, 2, 0, 2)), [0, 2, 0])
        self.assertEqual(last(net(away.format(5)), to_do(0, 0, 0, 2)), [0, 2, 0])

    def test_not_into_the_trap(self):
        trap = "place a\nplace b\nplace c\ngo f a 0 b 1\ngo g b 5 c 6\ngo h a 10 c 20\ngo i a 30 c 40\n"
        self.assertEqual(last(net(trap), to_do(0, 0, 0, 2)), [0, 2, 0])
        self.assertEqual(last(net(trap), to_do(1, 0, 0, 2)), [0, 2, 2])

    def test_refusals(self):
        for wrong in (to_do(-1, 0, 0, 1), to_do(4, 0, 0, 1), to_do(0, -1, 0, 1), to_do(0, 100001, 0, 1),
                      to_do(0, 0, -1, 1), to_do(0, 0, 8, 1), to_do(0, 0, 0, -1), to_do(0, 0, 0, 8),
                      to_do(FAR, 0, 7, 7), to_do(0, 0, 7, -FAR)):
            self.assertEqual(last(net(FLIGHTS), wrong), [-1])
        for wrong in (to_do(0, 0, 4, 0), to_do(0, 0, 0, 7), to_do(0, 0, 4, 4)):
            self.assertEqual(last(net(FLIGHTS), wrong), [-4])
        self.assertEqual(last(to_do(0, 0, 0, 0)), [-4])


class Play(unittest.TestCase):
    def test_at_the_goal(self):
        self.assertEqual(last(net(FLIGHTS), play(3, 17, 3, 3, [0, 1, 2])), [0, 17, 0])

    def test_none_cancelled(self):
        told = [0, 127, 3, 1, 0, 0, 2, 0, 60, 1, 1, 107]
        self.assertEqual(last(net(FLIGHTS), play(0, 0, 0, 3)), told)
        self.assertEqual(last(net(FLIGHTS), play(1, 0, 0, 3)), told)
        self.assertEqual(last(net(FLIGHTS), play(2, 0, 0, 3)), told)
        self.assertEqual(last(net(FLIGHTS), play(3, 0, 0, 3)), [0, 900, 1, 1, 2, 0])

    def test_cancelled(self):
        self.assertEqual(last(net(FLIGHTS), play(1, 4, 0, 3, [0])),
                         [0, 157, 4, 1, 0, 4, 3, 0, 60, 2, 1, 90, 1, 1, 137])
        self.assertEqual(last(net(FLIGHTS), play(2, 4, 0, 3, [1, 0])),
                         [0, 300, 4, 1, 0, 4, 3, 0, 60, 3, 1, 90, 2, 2, 200])
        self.assertEqual(last(net(FLIGHTS), play(0, 4, 0, 3, [1])), last(net(FLIGHTS), play(0, 4, 0, 3)))

    def test_more_than_k_cancelled(self):
        self.assertEqual(last(net(HOURLY), play(0, 0, 0, 1, [0, 1, 2])),
                         [0, 230, 4, 3, 0, 0, 3, 1, 60, 3, 2, 120, 2, 3, 180])
        self.assertEqual(last(net(HOURLY), play(3, 0, 0, 1, [0, 1, 2])),
                         [0, 230, 4, 3, 0, 0, 3, 1, 60, 3, 2, 120, 2, 3, 180])

    def test_one_does_not_come(self):
        self.assertEqual(last(net(HOURLY), play(1, 61, 0, 1, [2, 3])), [0, -1, 2, 3, 2, 120, 3, 3, 180])
        self.assertEqual(last(net(HOURLY), play(3, 1, 0, 1)), [0, -1, 0])
        self.assertEqual(last(net(HOURLY), play(0, 0, 1, 0)), [0, -1, 0])

    def test_k_is_one_less_behind_a_cancelled_one(self):
        """At 11 with k 1 the way by b would be a trap; with k 0 it's the best."""
        lines = "place a\nplace b\nplace c\ngo f a 10 c 20\ngo g a 12 b 13\ngo h b 14 c 15\ngo i a 30 c 40\n"
        self.assertEqual(last(net(lines), play(1, 0, 0, 2, [0])), [0, 15, 3, 3, 0, 10, 2, 1, 12, 2, 2, 14])
        self.assertEqual(last(net(lines), play(1, 11, 0, 2)), [0, -1, 0])

    def test_no_handling_at_the_goal(self):
        one = "place a 9\nplace b 50\ngo f a 5 b 6\ncar c b a 3\n"
        self.assertEqual(last(net(one), play(0, 0, 0, 1)), [0, 6, 1, 2, 0, 5])
        self.assertEqual(last(net(one), play(0, 0, 1, 0)), [0, 3, 1, 1, 0, 0])

    def test_from_car_to_car(self):
        names = "abcdefgh"
        ring = "".join(f"place {c} 1\n" for c in names)
        ring += "".join(f"car c{c} {c} {names[(i + 1) % 8]} 10\n" for i, c in enumerate(names))
        self.assertEqual(last(net(ring), play(3, 100000, 6, 1)), [0, 100032, 3, 1, 6, 100000, 1, 7, 100011, 1, 0, 100022])

    def test_thirty_cancelled(self):
        ladder = "place a\nplace b\n" + "".join(f"go g{i} a {i} b {i + 1}\n" for i in range(30))
        steps = [number for i in range(30) for number in (3, i, i)]
        self.assertEqual(last(net(ladder), play(0, 0, 0, 1, range(30))), [0, -1, 30] + steps)
        self.assertEqual(last(net(ladder), play(0, 0, 0, 1, range(29))), [0, 30, 30] + steps[:-3] + [2, 29, 29])

    def test_numbers_that_no_departure_has_and_twice_the_same(self):
        self.assertEqual(last(net(HOURLY), play(1, 0, 0, 1, [29, 0, 4, 0, 0])), [0, 110, 2, 3, 0, 0, 2, 1, 60])

    def test_not_as_told(self):
        for wrong in (play(-1, 0, 0, 1), play(4, 0, 0, 1), play(0, -1, 0, 1), play(0, 100001, 0, 1),
                      play(0, 0, -1, 1), play(0, 0, 8, 1), play(0, 0, 0, -1), play(0, 0, 0, 8),
                      play(0, 0, 0, 1, [30]), play(0, 0, 0, 1, [0, -1]), play(0, 0, 0, 1, [0] * 31),
                      play(0, 0, 0, 1, [FAR]), play(0, 0, 0, 1, [0] * 4000)):
            self.assertEqual(last(net(FLIGHTS), wrong), [-1])

    def test_no_such_place(self):
        self.assertEqual(last(net(HOURLY), play(0, 0, 2, 0)), [-4])
        self.assertEqual(last(net(HOURLY), play(0, 0, 0, 7, [29])), [-4])
        self.assertEqual(last(play(0, 0, 0, 0)), [-4])

    def test_not_as_told_stands_ahead(self):
        for wrong in (play(0, 0, 2, 0, [30]), play(4, 0, 7, 0), play(0, 0, 0, 7, [0] * 31), play(0, -1, 7, 7)):
            self.assertEqual(last(net(HOURLY), wrong), [-1])


if __name__ == "__main__":
    unittest.main()
