"""A worst case: worst."""

import unittest

from helper import FAR, FLIGHTS, HOURLY, add, ask, last, net, play, worst

TWO = "place a\nplace b\n"


class Worst(unittest.TestCase):
    def check(self, text, asked, minute, *cancelled):
        """What worst tells; and the journey where just these are cancelled comes just then."""
        told, journey = ask(net(text), worst(*asked), play(*asked, cancelled))[1:]
        self.assertEqual(told, [0, minute, len(cancelled)] + list(cancelled))
        steps = journey[3:]
        lost = [steps[at + 1] for at in range(0, len(steps), 3) if steps[at] == 3]
        self.assertEqual((journey[:2], lost), ([0, minute], list(cancelled)))

    def test_each_that_one_waits_for(self):
        self.check(FLIGHTS, (0, 0, 0, 3), 127)
        self.check(FLIGHTS, (1, 0, 0, 3), 157, 0)
        self.check(FLIGHTS, (2, 0, 0, 3), 300, 0, 1)
        self.check(FLIGHTS, (1, 11, 0, 3), 300, 1)
        for k in range(4):
            self.check(HOURLY, (k, 0, 0, 1), 50 + 60 * k, *range(k))

    def test_in_the_order_in_which_they_are_cancelled(self):
        mixed = TWO + "go f a 30 b 35\ngo g a 10 b 15\ngo h a 20 b 25\ngo i a 40 b 45\n"
        self.check(mixed, (2, 0, 0, 1), 35, 1, 2)
        self.check(mixed, (3, 0, 0, 1), 45, 1, 2, 0)

    def test_by_cars_alone(self):
        self.check(FLIGHTS, (3, 0, 0, 3), 900)
        self.check(FLIGHTS, (3, 100000, 2, 3), 100020)
        self.check("place a\nplace b 4\nplace c\ncar x a b 3\ncar y b c 5", (3, 1, 0, 2), 13)

    def test_at_the_goal(self):
        for k in range(4):
            self.check(FLIGHTS, (k, 0, 3, 3), 0)
            self.check(FLIGHTS, (k, 100000, 1, 1), 100000)

    def test_it_goes_where_that_is_worse(self):
        """Cancelled one would come by the quick one at 20."""
        self.check(TWO + "go f a 10 b 50\ngo g a 11 b 20\ngo h a 100 b 200\n", (1, 0, 0, 1), 50)

    def test_it_goes_where_both_are_the_same(self):
        self.check(TWO + "go f a 10 b 50\ngo g a 11 b 50\n", (1, 0, 0, 1), 50)

    def test_k_is_not_used_up_where_it_goes(self):
        """The first one goes (that's worse), and with the same k the one behind is cancelled."""
        text = ("place a\nplace b\nplace c\ngo f a 10 b 20\ngo g b 30 c 40\ngo h b 50 c 60\n"
                "go i a 11 c 45\ngo j a 100 c 110\n")
        self.check(text, (1, 0, 0, 2), 60, 1)

    def test_k_is_one_less_behind_a_cancelled_one(self):
        """With k 1 at 11 the way by b would not be sure; with k 0 left it's what's to be done, and it goes."""
        lines = "place a\nplace b\nplace c\ngo f a 10 c 20\ngo g a 12 b 23\ngo h b 24 c 25\ngo i a 30 c 40\n"
        self.check(lines, (1, 0, 0, 2), 25, 0)

    def test_behind_a_cancelled_one_by_car_elsewhere(self):
        far = "place a 50\nplace b 4\nplace c\ncar r a b 5\ngo f a 10 c 20\ngo g b 20 c 31\n"
        self.check(far, (1, 0, 0, 2), 31, 0)

    def test_no_handling_at_the_goal(self):
        self.check("place a\nplace b 1000\ngo f a 5 b 6\ngo g a 6 b 8\n", (1, 0, 0, 1), 8, 0)

    def test_two_departures_of_one_minute(self):
        pair = TWO + "go f a 10 b 20\ngo g a 10 b 15\ngo h a 11 b 30\n"
        self.check(pair, (0, 0, 0, 1), 15)
        self.check(pair, (1, 0, 0, 1), 30, 0)

    def test_a_car_behind_the_last_that_may_be_cancelled(self):
        self.check(HOURLY + "car c a b 700\n", (3, 61, 0, 1), 761)
        self.check(HOURLY + "car c a b 700\n", (2, 61, 0, 1), 761)
        self.check(HOURLY + "car c a b 700\ngo z a 190 b 820\n", (1, 121, 0, 1), 820, 3)

    def test_nothing_sure(self):
        self.assertEqual(last(net(HOURLY), worst(0, 181, 0, 1)), [-7])
        self.assertEqual(last(net(HOURLY), worst(1, 180, 0, 1)), [-7])
        self.assertEqual(last(net(HOURLY), worst(0, 0, 1, 0)), [-7])
        self.assertEqual(last(net(TWO), worst(0, 0, 0, 1)), [-7])

    def test_refusals(self):
        for wrong in (worst(-1, 0, 0, 1), worst(4, 0, 0, 1), worst(0, -1, 0, 1), worst(0, 100001, 0, 1),
                      worst(0, 0, -1, 1), worst(0, 0, 8, 1), worst(0, 0, 0, -1), worst(0, 0, 0, 8),
                      worst(FAR, 0, 0, 1), worst(0, -FAR, 0, 1), worst(0, 0, FAR, 1), worst(0, 0, 0, -FAR)):
            self.assertEqual(last(net(FLIGHTS), wrong), [-1])
        for wrong in (worst(0, 0, 4, 0), worst(0, 0, 0, 4), worst(3, 100000, 7, 7)):
            self.assertEqual(last(net(FLIGHTS), wrong), [-4])

    def test_order_of_refusals(self):
        for wrong in (worst(4, 0, 7, 7), worst(0, 100001, 7, 0), worst(0, 0, 7, 8), worst(0, 0, 8, 7)):
            self.assertEqual(ask(wrong, net(FLIGHTS), wrong)[::2], [[-1], [-1]])
        self.assertEqual(last(worst(0, 0, 0, 0)), [-4])
        self.assertEqual(ask(net(TWO), worst(0, 0, 0, 2), add("place c"), worst(0, 0, 0, 2))[1::2], [[-4], [-7]])


if __name__ == "__main__":
    unittest.main()
