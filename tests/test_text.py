"""A net as text: net, add, text; each kind of fault, its place, and that nothing changes with one."""

import unittest

from helper import add, ask, last, net, shift, text, without, written

TWO = "place a\nplace b\n"
SMALL = "place home 5\nplace port\nplace goal 1000\ncar taxi home port 40\ngo f1 port 60 goal 180\n"


def lines(kind, count):
    """So many lines of cars or departures between two places."""
    forms = {"car": "car c{} a b 1\n", "go": "go g{} a 0 b 1\n"}
    return "".join(forms[kind].format(i) for i in range(count))


class Reading(unittest.TestCase):
    def test_counts(self):
        self.assertEqual(last(net(SMALL)), [0, 3, 1, 1])

    def test_without_anything(self):
        self.assertEqual(ask(text(), net(""), text()), [[0], [0, 0, 0, 0], [0]])

    def test_lines_without_words_say_nothing(self):
        self.assertEqual(last(net("\n\n  \n \nplace a\n\n   \n")), [0, 1, 0, 0])

    def test_blanks_around_words(self):
        self.assertEqual(written(net("   place   a    7   \n place b")), "place a 7\nplace b\n")

    def test_last_line_needs_no_end(self):
        self.assertEqual(written(net("place a")), "place a\n")

    def test_net_puts_another_in_its_place(self):
        self.assertEqual(written(net(SMALL), net("place home")), "place home\n")

    def test_names_of_the_old_net_are_free(self):
        self.assertEqual(last(net(SMALL), net(SMALL)), [0, 3, 1, 1])

    def test_net_does_not_know_the_old_places(self):
        self.assertEqual(last(net(TWO), net("car c a b 1")), [1, 5, 6])

    def test_add_reads_behind(self):
        calls = [net(SMALL), add("place end\ncar bus goal end 3\ngo f2 end 0 home 9")]
        self.assertEqual(last(*calls), [0, 4, 2, 2])
        self.assertEqual(
            written(*calls),
            "place home 5\nplace port\nplace goal 1000\nplace end\ncar taxi home port 40\ncar bus goal end 3\n"
            "go f1 port 60 goal 180\ngo f2 end 0 home 9\n",
        )

    def test_add_to_nothing_and_nothing_added(self):
        self.assertEqual(ask(add("place a"), add(""), add(" \n")), [[0, 1, 0, 0]] * 3)

    def test_words_of_lines_are_names_too(self):
        self.assertEqual(last(net("place place\nplace go\ncar car place go 1\ngo go go 0 place 1")), [0, 2, 1, 1])

    def test_place_and_car_may_have_one_name(self):
        self.assertEqual(last(net("place a\nplace b\ncar a a b 1\ngo b a 0 b 1")), [0, 2, 1, 1])

    def test_longest_name_and_digits(self):
        self.assertEqual(last(net("place abcdefghijkl\nplace z0123456789a")), [0, 2, 0, 0])

    def test_bounds_of_numbers(self):
        good = "place a 0\nplace b 1000\ncar c a b 1\ncar e a b 10000\ngo f a 0 b 1\ngo g a 99999 b 100000"
        self.assertEqual(last(net(good)), [0, 2, 2, 2])

    def test_full_net(self):
        full = "".join(f"place {c}\n" for c in "abcdefgh") + lines("car", 16) + lines("go", 30)
        self.assertEqual(last(net(full)), [0, 8, 16, 30])
        self.assertEqual(written(net(full)), full)

    def test_longest_net_is_read_back(self):
        names = [c * 12 for c in "abcdefgh"]
        full = "".join(f"place {n} 1000\n" for n in names)
        full += "".join(f"car c1234567890{c} {names[0]} {names[1]} 10000\n" for c in "abcdefghijklmnop")
        full += "".join(f"go g123456789{i:02} {names[6]} 99999 {names[7]} 100000\n" for i in range(30))
        self.assertEqual(written(net(full)), full)
        self.assertEqual(written(net(full), net(written(net(full)))), full)

    def test_longest_text(self):
        self.assertEqual(last(net("place a" + " " * 3993)), [0, 1, 0, 0])
        self.assertEqual(last(net("\n" * 3999 + "x")), [1, 1, 3999])


class Written(unittest.TestCase):
    def test_order_and_form(self):
        mixed = "place b 0\nplace  a 3\ngo g b 0 a 1\ncar d b a 2\nplace c\ngo f a 10 c 100000\ncar c a c 9"
        self.assertEqual(
            written(net(mixed)),
            "place b\nplace a 3\nplace c\ncar d b a 2\ncar c a c 9\ngo g b 0 a 1\ngo f a 10 c 100000\n",
        )

    def test_without_and_shift_show(self):
        mixed = TWO + "go f a 1 b 2\ngo g a 3 b 4\ngo h a 5 b 6"
        self.assertEqual(
            written(net(mixed), without("g"), shift(10, "h")), TWO + "go f a 1 b 2\ngo h a 15 b 16\n"
        )


class Faults(unittest.TestCase):
    def check(self, read, kind, marked):
        """The fault stands where the sign ^ stands in the text (which is taken out first)."""
        place = marked.index("^")
        bad = marked.replace("^", "", 1)
        before = ask(net(read), text())[1]
        self.assertEqual(
            ask(net(read), add(bad), text(), net(read + bad), text()),
            [ask(net(read))[0], [1, kind, place], before, [1, kind, place + len(read)], before],
            marked,
        )

    def test_1_word_that_begins_a_line(self):
        for marked in ("^plac a", "^Place a", "^places a", "\n ^a", "place e\n^#", "^\tplace e", "^place\te", "^0"):
            self.check(TWO, 1, marked)

    def test_1_a_wrong_line_stands_behind_good_ones(self):
        self.check(TWO, 1, "place e\ncar c a b 1\n  ^what")

    def test_1_name(self):
        for name in ("A", "1a", "aB", "a-b", "abcdefghijklm", "a\x00", "a\r", "\xe9", "a_", "`", "{"):
            for marked in (f"place ^{name}", f"place ^{name} 7", f"car ^{name} a b 1", f"go ^{name} a 0 b 1"):
                self.check(TWO, 1, marked)

    def test_1_from_or_to_that_is_no_name(self):
        for marked in ("car c ^A b 1", "car c a ^7 1", "go c ^- 0 b 1", "go c a 0 ^B 1", "car c ^abcdefghijklm b 1"):
            self.check(TWO, 1, marked)

    def test_1_number(self):
        for number in ("-1", "+1", "01", "00", "1000000", "0000001", "x", "1x", "1.0", "/", ":", "\xb2"):
            marks = (f"place e ^{number}", f"car c a b ^{number}", f"go c a ^{number} b 1", f"go c a 0 b ^{number}")
            for marked in marks:
                self.check(TWO, 1, marked)

    def test_1_a_word_lacks(self):
        for marked in (
            "place^", "place^\n", "place   ^", "place   ^\nplace e", "car^", "car c^", "car c a^", "car c a b^",
            "car c a b ^\n", "go^", "go c^", "go c a^", "go c a 0^", "go c a 0 b^", "go c a 0 b  ^\nplace e",
        ):
            self.check(TWO, 1, marked)

    def test_1_a_word_too_many(self):
        for marked in ("place e 1 ^2", "place e 1 ^2 3", "car c a b 1 ^x", "go c a 0 b 1  ^1", "place e 0 ^place f"):
            self.check(TWO, 1, marked)

    def test_3_out_of_range(self):
        for marked in (
            "place e ^1001", "place e ^999999", "place e ^1001 x", "car c a b ^0", "car c a b ^10001",
            "go c a ^100001 b 1", "go c a 0 b ^100001", "go c a ^999999 a 1", "go c a 100000 b ^100001",
        ):
            self.check(TWO, 3, marked)

    def test_4_name_told_before(self):
        more = TWO + "car c a b 1\ngo g a 0 b 1\n"
        for marked in (
            "place ^a", "place ^b x", "place e\nplace ^e", "car ^c a b 1", "car ^g a b 1", "go ^c a 0 b 1",
            "go ^g a 0 b 1", "car e a b 1\ngo ^e", "go e a 0 b 1\ncar ^e",
        ):
            self.check(more, 4, marked)

    def test_4_not_for_a_name_the_net_has_no_more(self):
        calls = [net(TWO + "go g a 0 b 1"), without("g"), add("car g a b 1")]
        self.assertEqual(last(*calls), [0, 2, 1, 0])
        self.assertEqual(last(*calls, add("go g a 0 b 1")), [1, 4, 3])

    def test_5_no_such_place(self):
        for marked in (
            "car c ^e b 1", "car c ^e e 1", "car c a ^e 0", "go c ^e 0 b 1", "go c a 0 ^e x", "car c a ^bb 1",
            "car c ^c b 1", "go c a 5 ^e 1", "car c a ^e 1\nplace e",
        ):
            self.check(TWO, 5, marked)

    def test_6_to_is_from(self):
        for marked in ("car c a ^a 1", "car c b ^b 0", "car c b ^b", "go c a 0 ^a 1", "go c a 5 ^a 5", "go c a 0 ^a x"):
            self.check(TWO, 6, marked)

    def test_7_no_room(self):
        places = "".join(f"place {c}\n" for c in "abcdefgh")
        for read, marked in (
            (places, "^place i"), (places, " ^place"), (places, "^place a"), (places, "^place A 5 6"),
            (TWO + lines("car", 16), "^car c a b 1"), (TWO + lines("car", 16), "^car c0"),
            (TWO + lines("go", 30), "^go c a 0 b 1"), (TWO + lines("go", 30), "\n ^go g0 x"),
            (places, "car c a b 1\n^place i"),
        ):
            self.check(read, 7, marked)

    def test_7_not_a_moment_too_soon(self):
        self.assertEqual(last(net(TWO + lines("car", 15)), add("car z a b 1")), [0, 2, 16, 0])
        self.assertEqual(last(net(TWO + lines("go", 29)), add("go z a 0 b 1")), [0, 2, 0, 30])
        self.assertEqual(last(net(TWO + lines("go", 30)), without("g7"), add("go z a 0 b 1")), [0, 2, 0, 30])

    def test_7_rooms_are_not_shared(self):
        self.assertEqual(last(net(TWO + lines("car", 16)), add("go z a 0 b 1\nplace e")), [0, 3, 16, 1])
        self.check(TWO + lines("car", 16), 1, "^cars c a b 1")

    def test_8_not_above(self):
        for marked in ("go c a 5 b ^5", "go c a 5 b ^4", "go c a 0 b ^0", "go c a 100000 b ^100000", "go c a 5 b ^5 x"):
            self.check(TWO, 8, marked)

    def test_the_first_line_with_a_fault(self):
        self.check(TWO, 5, "place e\ncar c a ^f 1\nwhat\nplace a")
        self.check(TWO, 8, "go c a 5 b ^1\nplace a\ncar c a a 1")

    def test_nothing_of_the_text_stays(self):
        self.assertEqual(written(net(TWO), add("place e\ncar c a e 3\ngo g a 1 e 2\n\nno")), TWO)
        self.assertEqual(written(net("place e\nno")), "")


class Refusals(unittest.TestCase):
    def test_bytes_and_length(self):
        for wrong in ([256], [-1], [97] * 5 + [10 ** 18], [32] * 3999 + [-(10 ** 18)]):
            self.assertEqual(ask(net(TWO), net(wrong), add(wrong), text())[1:3], [[-1], [-1]])
            self.assertEqual(written(net(TWO), net(wrong), add(wrong)), TWO)

    def test_refused_before_it_is_read(self):
        self.assertEqual(last(net(list(b"what ") + [256])), [-1])

    def test_all_bytes_may_be_handed_over(self):
        self.assertEqual(last(net(list(range(256)))), [1, 1, 0])
        self.assertEqual(last(net([255])), [1, 1, 0])
        self.assertEqual(last(net([0])), [1, 1, 0])


if __name__ == "__main__":
    unittest.main()
