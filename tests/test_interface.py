"""The list handed in, the list given back, and that nothing is kept."""

import unittest

from helper import (
    add, cars, find, joined, last_start, net, play, profile, row, shift, stands, state, sure, table, text, to_do, who,
    without, worst, worths,
)
from surejourney.journeys import answers

NET = "place a\nplace b 3\ncar c a b 10\ngo f a 5 b 9\n"
ALL = [net(NET), add("place e"), text(), shift(2, "f"), sure(1, 0, 0, 1), table(0, 0, 0), to_do(0, 0, 0, 1),
       play(0, 0, 0, 1, [0]), last_start(0, 20, 0, 1), profile(0, 0, 1), worst(0, 0, 0, 1), cars(0, 1),
       who(3, 0, 10, 0), stands(0, 10, 0, 1), state(), find("f"), worths(0, 1), worths(1, 2), without("f"),
       without("f"), shift(1, "f"), net("place"), sure(9, 0, 0, 1), sure(0, 0, 7, 1), sure(0, 0, 0, 2), text()]


class Interface(unittest.TestCase):
    def test_numbers_as_they_lie(self):
        calls = [0, 7] + list(b"place a") + [5, 0, 4, 0, 0, 5, 0, 4, 0, 1, 2]
        self.assertEqual(answers(calls), [4, 0, 1, 0, 0, 2, 0, 4, 1, -4, 9, 0] + list(b"place a\n"))

    def test_every_call(self):
        written = list((NET.replace("b 3\n", "b 3\nplace e\n")).encode())
        self.assertEqual(
            answers(joined(ALL)),
            [4, 0, 2, 1, 1] + [4, 0, 3, 1, 1] + [1 + len(written), 0] + written + [3, 0, 7, 11] + [2, 0, 10]
            + [4, 0, 0, 10, -1] + [3, 0, 1, 0] + [6, 0, 10, 1, 1, 0, 0] + [2, 0, 10] + [4, 0, 1, 7, 11]
            + [3, 0, 10, 0] + [2, 0, 10] + [4, 0, 2, 0, 1] + [2, 0, 3] + [4, 0, 3, 1, 1] + [3, 0, 2, 0] + [2, 0, 11]
            + [2, 0, -1] + [1, 0] + [1, -5] + [1, -5] + [3, 1, 1, 5]
            + [1, -1] + [1, -4] + [1, -7] + [40, 0] + list(b"place a\nplace b 3\nplace e\ncar c a b 10\n"),
        )

    def test_a_fault_and_a_refusal_stand_alone(self):
        self.assertEqual(answers([1] + row("x") + [3] + row("x") + [2]), [3, 1, 1, 0, 1, -5, 1, 0])

    def test_handed_in_stays_the_same(self):
        calls = joined(ALL)
        before = list(calls)
        answers(calls)
        self.assertEqual(calls, before)

    def test_nothing_is_kept(self):
        calls = joined(ALL)
        first = answers(calls)
        self.assertEqual(answers(calls), first)
        self.assertEqual(answers(text()), [1, 0])
        self.assertEqual(answers(calls), first)

    def test_what_is_given_back_is_new_each_time(self):
        calls = joined(ALL)
        first = answers(calls)
        copy = list(first)
        first.clear()
        self.assertEqual(answers(calls), copy)

    def test_whole_numbers_alone(self):
        given = answers(joined(ALL))
        self.assertIs(type(given), list)
        self.assertEqual({type(number) for number in given}, {int})

    def test_150_calls_with_long_lists(self):
        calls = joined([net("place a" + " " * 3993)] + [sure(3, 0, 0, 0)] * 148 + [text()])
        self.assertEqual(answers(calls), [4, 0, 1, 0, 0] + [2, 0, 0] * 148 + [9, 0] + list(b"place a\n"))
        long = joined([net([256] * 4000)] * 4 + [text()])
        self.assertEqual(answers(long), [1, -1] * 4 + [1, 0])


if __name__ == "__main__":
    unittest.main()
