"""The minutes at which to start: last and profile."""

import unittest

from helper import FAR, FLIGHTS, HOURLY, add, ask, last, last_start, net, profile, shift, sure, without

ROAD = "place a 50\nplace b 3\nplace c 9\ncar r a b 7\ngo f b 20 c 30\n"


class Last(unittest.TestCase):
    def check(self, text, k, p, d, pairs):
        asked = [last_start(k, limit, p, d) for limit, minute in pairs]
        self.assertEqual(ask(net(text), *asked)[1:], [[-7] if m is None else [0, m] for limit, m in pairs])

    def test_just_in_time_for_a_departure(self):
        self.check(FLIGHTS, 0, 0, 3, [(0, None), (126, None), (127, 10), (156, 10), (157, 40), (299, 40), (300, 150)])
        self.check(FLIGHTS, 1, 0, 3, [(156, None), (157, 10), (299, 10), (300, 40)])
        self.check(FLIGHTS, 2, 0, 3, [(299, None), (300, 10)])
        self.check(FLIGHTS, 0, 1, 3, [(126, None), (127, 60), (157, 90), (300, 200), (100000, 200)])

    def test_cars_alone(self):
        self.check(FLIGHTS, 3, 0, 3, [(0, None), (899, None), (900, 0), (901, 1), (100000, 99100)])
        self.check(FLIGHTS, 0, 0, 3, [(1050, 150), (1051, 151), (100000, 99100)])
        self.check(FLIGHTS, 1, 0, 3, [(900, 40), (940, 40), (941, 41)])

    def test_p_is_d(self):
        for k in range(4):
            self.check(FLIGHTS, k, 3, 3, [(0, 0), (1, 1), (300, 300), (100000, 100000)])
            self.check("place a 1000", k, 0, 0, [(0, 0), (77, 77), (100000, 100000)])

    def test_handling_on_the_way_to_a_departure(self):
        self.check(ROAD, 0, 0, 2, [(29, None), (30, 10), (100000, 10)])
        self.check(ROAD, 1, 0, 2, [(100000, None)])
        self.check(ROAD, 0, 0, 1, [(6, None), (7, 0), (8, 1)])

    def test_not_before_minute_0(self):
        self.assertEqual(last(net(ROAD), shift(-10, "f"), last_start(0, 100, 0, 2)), [0, 0])
        self.assertEqual(last(net(ROAD), shift(-11, "f"), last_start(0, 100, 0, 2)), [-7])
        self.assertEqual(last(net(ROAD), shift(-20, "f"), last_start(0, 10, 1, 2)), [0, 0])

    def test_no_departure_and_no_way(self):
        self.check("place a\nplace b\ncar c a b 10", 3, 0, 1, [(9, None), (10, 0), (11, 1), (100000, 99990)])
        self.check("place a\nplace b\ncar c a b 10", 0, 1, 0, [(0, None), (100000, None)])

    def test_the_later_start_may_come_sooner(self):
        """The last start counts, not the one for the earliest departure."""
        cross = "place a\nplace b\ngo f a 30 b 40\ngo g a 10 b 50\ngo h a 60 b 70\n"
        self.check(cross, 0, 0, 1, [(39, None), (40, 30), (50, 30), (69, 30), (70, 60)])
        self.check(cross, 1, 0, 1, [(49, None), (50, 10), (69, 10), (70, 30)])

    def test_last_departure_of_all(self):
        self.check("place a\nplace b\ngo f a 99999 b 100000", 0, 0, 1, [(99999, None), (100000, 99999)])

    def test_two_departures_of_one_minute(self):
        pair = "place a\nplace b\ngo f a 10 b 20\ngo g a 10 b 15\n"
        self.check(pair, 0, 0, 1, [(14, None), (15, 10), (20, 10)])
        self.check(pair, 1, 0, 1, [(100000, None)])

    def test_in_time_from_then_and_from_no_later_minute(self):
        for k, limit in ((0, 127), (0, 300), (1, 157), (1, 941), (2, 300), (3, 900)):
            minute = last(net(FLIGHTS), last_start(k, limit, 0, 3))[1]
            at, behind = ask(net(FLIGHTS), sure(k, minute, 0, 3), sure(k, minute + 1, 0, 3))[1:]
            self.assertTrue(at[0] == 0 and at[1] <= limit)
            self.assertTrue(behind == [-7] or behind[1] > limit)

    def test_refusals(self):
        for wrong in (last_start(-1, 0, 0, 1), last_start(4, 0, 0, 1), last_start(0, -1, 0, 1),
                      last_start(0, 100001, 0, 1), last_start(0, 0, -1, 1), last_start(0, 0, 8, 1),
                      last_start(0, 0, 0, -1), last_start(0, 0, 0, 8), last_start(FAR, 0, 0, 1),
                      last_start(0, -FAR, 0, 1), last_start(0, 0, FAR, 0), last_start(0, 0, 0, -FAR)):
            self.assertEqual(last(net(FLIGHTS), wrong), [-1])
        for wrong in (last_start(0, 0, 4, 0), last_start(0, 0, 0, 4), last_start(3, 100000, 7, 7)):
            self.assertEqual(last(net(FLIGHTS), wrong), [-4])

    def test_order_of_refusals(self):
        for wrong in (last_start(4, 0, 7, 7), last_start(0, 100001, 7, 0), last_start(0, 0, 7, 8),
                      last_start(0, 0, 8, 7)):
            self.assertEqual(ask(wrong, net(FLIGHTS), wrong)[::2], [[-1], [-1]])
        self.assertEqual(last(last_start(0, 0, 0, 0)), [-4])
        self.assertEqual(last(net("place a\nplace b"), last_start(0, 0, 0, 2)), [-4])
        self.assertEqual(last(net("place a\nplace b"), last_start(0, 0, 0, 1)), [-7])


class Profile(unittest.TestCase):
    def check(self, text, k, p, d, *pairs):
        told = [number for pair in pairs for number in pair]
        self.assertEqual(last(net(text), profile(k, p, d)), [0, len(pairs)] + told)

    def test_by_car_to_the_departures(self):
        self.check(FLIGHTS, 0, 0, 3, (10, 127), (40, 157), (150, 300))
        self.check(FLIGHTS, 1, 0, 3, (10, 157), (40, 300))
        self.check(FLIGHTS, 2, 0, 3, (10, 300))
        self.check(FLIGHTS, 3, 0, 3)

    def test_there_already(self):
        self.check(FLIGHTS, 0, 1, 3, (60, 127), (90, 157), (200, 300))
        self.check(FLIGHTS, 1, 1, 3, (60, 157), (90, 300))
        self.check(HOURLY, 0, 0, 1, (0, 50), (60, 110), (120, 170), (180, 230))
        self.check(HOURLY, 3, 0, 1, (0, 230))

    def test_rising_whatever_the_order_told(self):
        mixed = "place a\nplace b\ngo f a 30 b 35\ngo g a 10 b 15\ngo h a 20 b 25\n"
        self.check(mixed, 0, 0, 1, (10, 15), (20, 25), (30, 35))

    def test_each_minute_once(self):
        pair = "place a\nplace b\ngo f a 10 b 20\ngo g a 10 b 15\ngo h a 10 b 15\ngo i a 12 b 16\n"
        self.check(pair, 0, 0, 1, (10, 15), (12, 16))
        self.check(pair, 1, 0, 1, (10, 16))

    def test_two_places_one_minute(self):
        """One departure from here, one by car: one must be ready for both at 10."""
        both = "place a\nplace b 3\nplace c\ncar r a b 7\ngo f a 10 c 40\ngo g b 20 c 30\n"
        self.check(both, 0, 0, 2, (10, 30))

    def test_not_if_a_minute_later_it_is_the_same(self):
        cross = "place a\nplace b\ngo f a 10 b 50\ngo g a 30 b 40\ngo h a 29 b 40\n"
        self.check(cross, 0, 0, 1, (30, 40))

    def test_a_minute_apart(self):
        self.check("place a\nplace b\ngo f a 10 b 11\ngo g a 11 b 12\n", 0, 0, 1, (10, 11), (11, 12))

    def test_sooner_than_by_cars_alone(self):
        road = "place a\nplace b\ncar c a b {}\ngo f a 10 b 30\n"
        self.check(road.format(19), 0, 0, 1)
        self.check(road.format(20), 0, 0, 1)
        self.check(road.format(21), 0, 0, 1, (10, 30))
        self.check(road.format(21), 1, 0, 1)

    def test_behind_it_cars_alone_or_nothing(self):
        road = "place a\nplace b\ngo f a 10 b 30\n"
        self.check(road, 0, 0, 1, (10, 30))
        self.check(road + "car c a b 1000", 0, 0, 1, (10, 30))
        self.check(road + "car c a b 1000\ngo g a 40 b 60", 1, 0, 1, (10, 60))
        self.check(road + "car c a b 1000\ngo g a 2000 b 2100", 1, 0, 1)

    def test_p_is_d(self):
        for k in range(4):
            self.check(FLIGHTS, k, 1, 1)
            self.check(FLIGHTS, k, 3, 3)

    def test_from_minute_0_on(self):
        self.assertEqual(last(net(ROAD), profile(0, 0, 2)), [0, 1, 10, 30])
        self.assertEqual(last(net(ROAD), shift(-10, "f"), profile(0, 0, 2)), [0, 1, 0, 20])
        self.assertEqual(last(net(ROAD), shift(-11, "f"), profile(0, 0, 2)), [0, 0])
        self.assertEqual(last(net(ROAD), shift(-20, "f"), profile(0, 1, 2)), [0, 1, 0, 10])

    def test_below_0_is_left_out_and_the_rest_stays(self):
        self.assertEqual(last(net(ROAD), add("go g b 2 c 4\ngo h b 40 c 50"), profile(0, 0, 2)), [0, 2, 10, 30, 30, 50])

    def test_nothing_sure_and_no_departure(self):
        self.check(FLIGHTS, 0, 3, 0)
        self.check("place a\nplace b\nplace c\ngo f a 5 c 6", 0, 0, 1)
        self.check("place a\nplace b", 0, 0, 1)
        self.check("place a\nplace b\ncar c a b 10", 3, 0, 1)
        self.assertEqual(last(net(ROAD), without("f"), profile(0, 0, 2)), [0, 0])

    def test_last_departure_of_all(self):
        late = "place a\nplace b 1000\nplace c\ngo f a 99999 b 100000\ncar r b c 10000\n"
        self.check(late, 0, 0, 2, (99999, 111000))

    def test_thirty_departures(self):
        ladder = "place a\nplace b\n" + "".join(f"go g{i} a {i} b {i + 1}\n" for i in range(30))
        for k in range(4):
            self.check(ladder, k, 0, 1, *[(i, i + 1 + k) for i in range(30 - k)])

    def test_refusals(self):
        for wrong in (profile(-1, 0, 1), profile(4, 0, 1), profile(0, -1, 1), profile(0, 8, 1), profile(0, 0, -1),
                      profile(0, 0, 8), profile(FAR, 0, 1), profile(0, -FAR, 1), profile(0, 0, FAR)):
            self.assertEqual(last(net(FLIGHTS), wrong), [-1])
        for wrong in (profile(0, 4, 0), profile(0, 0, 4), profile(3, 7, 7)):
            self.assertEqual(last(net(FLIGHTS), wrong), [-4])

    def test_order_of_refusals(self):
        for wrong in (profile(4, 7, 7), profile(0, 7, 8), profile(0, 8, 7), profile(-1, 0, 7)):
            self.assertEqual(ask(wrong, net(FLIGHTS), wrong)[::2], [[-1], [-1]])
        self.assertEqual(last(profile(0, 0, 0)), [-4])


if __name__ == "__main__":
    unittest.main()
