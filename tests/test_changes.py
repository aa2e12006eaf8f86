"""A departure taken out or moved: without and shift."""

import unittest

from helper import FAR, ask, last, net, shift, sure, text, to_do, without, written

BASE = "place a\nplace b\nplace c\ncar r a b 50\n"
NET = BASE + "go f a 10 b 20\ngo g a 12 b 15\ngo h b 30 c 40\n"


class Without(unittest.TestCase):
    def test_it_is_gone(self):
        self.assertEqual(last(net(NET), without("f")), [0])
        self.assertEqual(written(net(NET), without("f")), BASE + "go g a 12 b 15\ngo h b 30 c 40\n")

    def test_those_behind_have_a_number_less(self):
        self.assertEqual(ask(net(NET), to_do(0, 0, 0, 1), without("f"), to_do(0, 0, 0, 1))[1:],
                         [[0, 2, 1], [0], [0, 2, 0]])

    def test_what_is_sure_is_reckoned_anew(self):
        self.assertEqual(ask(net(NET), sure(0, 0, 0, 2), without("h"), sure(0, 0, 0, 2))[1:], [[0, 40], [0], [-7]])

    def test_twice_is_too_often(self):
        self.assertEqual(ask(net(NET), without("g"), without("g"))[1:], [[0], [-5]])

    def test_no_such_departure(self):
        for name in ("", "a", "r", "x", "ff", "abcdefghijkl", "F", "f ", "\xff", "\x00"):
            self.assertEqual(ask(net(NET), without(name), text()), [[0, 3, 1, 3], [-5], ask(net(NET), text())[1]])
        self.assertEqual(last(without("f")), [-5])

    def test_name_not_as_told(self):
        for name in ("abcdefghijklm", [256], [-1], [102, FAR], [102] * 4000):
            self.assertEqual(ask(net(NET), without(name), text()), [[0, 3, 1, 3], [-1], ask(net(NET), text())[1]])


class Shift(unittest.TestCase):
    def test_new_minutes(self):
        self.assertEqual(last(net(NET), shift(5, "f")), [0, 15, 25])
        self.assertEqual(last(net(NET), shift(-10, "f")), [0, 0, 10])
        self.assertEqual(last(net(NET), shift(0, "h")), [0, 30, 40])

    def test_it_keeps_its_number_and_the_rest(self):
        self.assertEqual(written(net(NET), shift(100, "f")), NET.replace("a 10 b 20", "a 110 b 120"))

    def test_what_is_sure_is_reckoned_anew(self):
        self.assertEqual(ask(net(NET), shift(-16, "h"), sure(0, 0, 0, 2), shift(1, "h"), sure(0, 0, 0, 2))[1:],
                         [[0, 14, 24], [-7], [0, 15, 25], [0, 25]])

    def test_shifts_add_up(self):
        self.assertEqual(ask(net(NET), shift(7, "g"), shift(-7, "g"), text())[2:], [[0, 12, 15], ask(net(NET), text())[1]])

    def test_edges_of_the_times(self):
        self.assertEqual(last(net(NET), shift(99980, "f")), [0, 99990, 100000])
        self.assertEqual(last(net(BASE + "go f a 0 b 100000"), shift(0, "f")), [0, 0, 100000])
        self.assertEqual(last(net(BASE + "go f a 99999 b 100000"), shift(-99999, "f")), [0, 0, 1])

    def test_outside_the_times(self):
        for minutes in (-11, 99981, 100000, -100000):
            self.assertEqual(ask(net(NET), shift(minutes, "f"), text())[1:], [[-8], ask(net(NET), text())[1]])
        self.assertEqual(last(net(BASE + "go f a 0 b 100000"), shift(1, "f")), [-8])
        self.assertEqual(last(net(BASE + "go f a 0 b 100000"), shift(-1, "f")), [-8])

    def test_no_such_departure(self):
        for name in ("", "a", "r", "x"):
            self.assertEqual(last(net(NET), shift(1, name)), [-5])
            self.assertEqual(last(net(NET), shift(-100000, name)), [-5])

    def test_not_as_told(self):
        for minutes in (100001, -100001, FAR, -FAR):
            self.assertEqual(last(net(NET), shift(minutes, "f")), [-1])
            self.assertEqual(last(net(NET), shift(minutes, "x")), [-1])
        for name in ("abcdefghijklm", [256], [-1]):
            self.assertEqual(last(net(NET), shift(1, name)), [-1])
        self.assertEqual(written(net(NET), shift(100001, "f")), NET)


if __name__ == "__main__":
    unittest.main()
