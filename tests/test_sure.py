"""What's sure: sure and table."""

import unittest

from helper import FAR, FLIGHTS, add, ask, last, net, sure, table


class Sure(unittest.TestCase):
    def test_at_the_goal(self):
        for k in range(4):
            for minute in (0, 7, 100000):
                self.assertEqual(last(net(FLIGHTS), sure(k, minute, 3, 3)), [0, minute])

    def test_cars_alone_with_handling_between(self):
        roads = "place a 100\nplace b 7\nplace c 100\ncar x a b 20\ncar y b c 30\n"
        self.assertEqual(last(net(roads), sure(3, 1000, 0, 2)), [0, 1057])
        self.assertEqual(last(net(roads + "car z a c 57"), sure(0, 1000, 0, 2)), [0, 1057])
        self.assertEqual(last(net(roads + "car z a c 56"), sure(0, 1000, 0, 2)), [0, 1056])
        self.assertEqual(last(net(roads), sure(0, 0, 2, 0)), [-7])

    def test_of_two_cars_the_shorter(self):
        for roads in ("car x a b 20\ncar y a b 30\n", "car x a b 30\ncar y a b 20\n"):
            self.assertEqual(last(net("place a\nplace b\n" + roads), sure(0, 5, 0, 1)), [0, 25])

    def test_more_cancelled(self):
        asked = [sure(k, 0, 0, 3) for k in range(4)]
        self.assertEqual(ask(net(FLIGHTS), *asked)[1:], [[0, 127], [0, 157], [0, 300], [0, 900]])

    def test_each_departure_of_three_may_be_lost(self):
        hourly = "place a\nplace b\n" + "".join(f"go g{i} a {60 * i} b {60 * i + 50}\n" for i in range(3))
        asked = [sure(k, 0, 0, 1) for k in range(4)]
        self.assertEqual(ask(net(hourly), *asked)[1:], [[0, 50], [0, 110], [0, 170], [-7]])
        self.assertEqual(last(net(hourly), add("car c a b 1000"), sure(3, 0, 0, 1)), [0, 1000])

    def test_ready_just_in_time(self):
        for minute, answer in ((5, [0, 127]), (10, [0, 127]), (11, [0, 157]), (40, [0, 157]), (41, [0, 300]),
                               (150, [0, 300]), (151, [0, 1051])):
            self.assertEqual(last(net(FLIGHTS), sure(0, minute, 0, 3)), answer)

    def test_who_is_there_has_no_handling(self):
        for minute, answer in ((60, [0, 127]), (61, [0, 157]), (200, [0, 300]), (201, [-7])):
            self.assertEqual(last(net(FLIGHTS), sure(0, minute, 1, 3)), answer)

    def test_handling_between_departures(self):
        for handling, answer in ((0, [0, 40]), (9, [0, 40]), (10, [0, 40]), (11, [-7])):
            two = f"place a 9\nplace b {handling}\nplace c 99\ngo f a 5 b 20\ngo g b 30 c 40\n"
            self.assertEqual(last(net(two), sure(0, 5, 0, 2)), answer)

    def test_departures_of_one_minute(self):
        chain = "place a\nplace b\nplace c\ngo f a 0 b 1\ngo g b 1 c 2\ngo h a 1 c 3\n"
        self.assertEqual(ask(net(chain), *[sure(k, 0, 0, 2) for k in range(3)])[1:], [[0, 2], [-7], [-7]])
        self.assertEqual(last(net(chain), add("go i b 2 c 4"), sure(1, 0, 0, 2)), [0, 4])

    def test_cancelled_means_ready_a_minute_later(self):
        pair = "place a\nplace b\ngo f a 10 b 11\n"
        self.assertEqual(last(net(pair + "go g a 10 b 12"), sure(1, 0, 0, 1)), [-7])
        self.assertEqual(last(net(pair + "go g a 11 b 12"), sure(1, 0, 0, 1)), [0, 12])

    def test_behind_a_cancelled_one_by_car_elsewhere(self):
        far = "place a 50\nplace b 4\nplace c\ncar r a b 5\ngo f a 10 c 20\ngo g b 20 c 31\n"
        self.assertEqual(last(net(far), sure(1, 0, 0, 2)), [0, 31])
        self.assertEqual(last(net(far.replace("b 20", "b 19")), sure(1, 0, 0, 2)), [-7])

    def test_cars_are_never_cancelled(self):
        self.assertEqual(last(net("place a\nplace b\ncar c a b 10\n"), sure(3, 0, 0, 1)), [0, 10])

    def test_last_minutes(self):
        late = "place a\nplace b 1000\nplace c\ngo f a 99999 b 100000\ncar r b c 10000\n"
        self.assertEqual(last(net(late), sure(0, 99999, 0, 2)), [0, 111000])
        self.assertEqual(last(net(late), sure(0, 100000, 0, 2)), [-7])
        self.assertEqual(last(net(late), sure(0, 100000, 1, 2)), [0, 110000])

    def test_the_worth_of_a_longer_wait(self):
        """With one lost the early way is a trap: from where it ends there's no second one."""
        trap = "place a\nplace b\nplace c\ngo f a 0 b 1\ngo g b 5 c 6\ngo h a 10 c 20\ngo i a 30 c 40\n"
        self.assertEqual(ask(net(trap), *[sure(k, 0, 0, 2) for k in range(3)])[1:], [[0, 6], [0, 40], [-7]])

    def test_thirty_departures(self):
        ladder = "place a\nplace b\n" + "".join(f"go g{i} a {i} b {i + 1}\n" for i in range(30))
        self.assertEqual(ask(net(ladder), *[sure(k, 0, 0, 1) for k in range(4)])[1:], [[0, 1], [0, 2], [0, 3], [0, 4]])
        self.assertEqual(ask(net(ladder), *[sure(k, 27, 0, 1) for k in range(4)])[1:], [[0, 28], [0, 29], [0, 30], [-7]])


class Refusals(unittest.TestCase):
    def test_not_as_told(self):
        for wrong in (sure(-1, 0, 0, 1), sure(4, 0, 0, 1), sure(0, -1, 0, 1), sure(0, 100001, 0, 1),
                      sure(0, 0, -1, 1), sure(0, 0, 8, 1), sure(0, 0, 0, -1), sure(0, 0, 0, 8), sure(FAR, 0, 0, 1),
                      sure(0, -FAR, 0, 1), sure(0, 0, FAR, 1), sure(0, 0, 0, -FAR)):
            self.assertEqual(last(net(FLIGHTS), wrong), [-1])

    def test_no_such_place(self):
        for place in (4, 7):
            self.assertEqual(last(net(FLIGHTS), sure(0, 0, place, 0)), [-4])
            self.assertEqual(last(net(FLIGHTS), sure(0, 0, 0, place)), [-4])
            self.assertEqual(last(net(FLIGHTS), sure(0, 0, place, place)), [-4])
        self.assertEqual(last(sure(0, 0, 0, 0)), [-4])
        self.assertEqual(last(table(0, 0, 0)), [-4])

    def test_not_as_told_stands_ahead(self):
        for wrong in (sure(4, 0, 7, 0), sure(0, 100001, 0, 7), sure(0, 0, 7, 8), sure(0, 0, 8, 7), table(4, 0, 7),
                      table(0, -1, 7)):
            self.assertEqual(last(net(FLIGHTS), wrong), [-1])
            self.assertEqual(last(wrong), [-1])

    def test_no_such_place_stands_ahead_of_nothing_sure(self):
        self.assertEqual(last(net("place a\nplace b"), sure(0, 0, 0, 2)), [-4])
        self.assertEqual(last(net("place a\nplace b"), sure(0, 0, 0, 1)), [-7])

    def test_table(self):
        for wrong in (table(-1, 0, 0), table(4, 0, 0), table(0, -1, 0), table(0, 100001, 0), table(0, 0, -1),
                      table(0, 0, 8)):
            self.assertEqual(last(net(FLIGHTS), wrong), [-1])
        self.assertEqual(last(net(FLIGHTS), table(0, 0, 4)), [-4])


class Table(unittest.TestCase):
    def test_each_place_in_order(self):
        self.assertEqual(last(net(FLIGHTS), table(0, 5, 0)), [0, 5, 45, 100, 127])
        self.assertEqual(last(net(FLIGHTS), table(1, 5, 0)), [0, 5, 45, 130, 157])
        self.assertEqual(last(net(FLIGHTS), table(2, 5, 0)), [0, 5, 45, -1, 300])
        self.assertEqual(last(net(FLIGHTS), table(3, 5, 0)), [0, 5, 45, -1, 905])

    def test_nothing_sure_is_no_refusal(self):
        self.assertEqual(last(net("place a\nplace b\nplace c"), table(3, 100000, 1)), [0, -1, 100000, -1])

    def test_eight_places(self):
        names = "abcdefgh"
        ring = "".join(f"place {c} 1\n" for c in names)
        ring += "".join(f"car c{c} {c} {names[(i + 1) % 8]} 10\n" for i, c in enumerate(names))
        self.assertEqual(last(net(ring), table(0, 0, 2)), [0, 65, 76, 0, 10, 21, 32, 43, 54])
        self.assertEqual(last(net(ring), sure(3, 0, 7, 6)), [0, 76])


if __name__ == "__main__":
    unittest.main()
