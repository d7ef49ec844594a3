"""k3: numbers, boxes, uids, flags and values as words."""

import random
import unittest

from oncemail.talk import (read_box, read_flags, read_number, read_uids, say, show_flags, show_uids, show_value)


def uids_word(uids):
    """The word of uids by k3: below 0 one by one, above 0 in runs."""
    pieces = [str(uid) for uid in uids if uid < 0]
    run = []
    for uid in [uid for uid in uids if uid > 0] + [None]:
        if run and (uid is None or uid != run[-1] + 1):
            pieces.append(str(run[0]) if len(run) == 1 else f"{run[0]}:{run[-1]}")
            run = []
        run.append(uid)
    return ",".join(pieces) or "-"


class Numbers(unittest.TestCase):
    def test_right_ones(self):
        for word, number in (("0", 0), ("7", 7), ("10", 10), ("999999999", 999999999), ("123456789", 123456789)):
            self.assertEqual(read_number(word), number)
            self.assertEqual(read_box(word), number)
        for word, number in (("-1", -1), ("-10", -10), ("-999999999", -999999999)):
            self.assertEqual(read_box(word), number)

    def test_nearly_right_ones(self):
        for word in ("", "00", "01", "+1", "1000000000", "0000000001", "1a", "a", "1.", "1,2", "1:2", "\u0661", "1_0",
                     "--1", "- 1", "-", "{1}", "9999999999999999999999"):
            self.assertIsNone(read_number(word), word)
            self.assertIsNone(read_box(word), word)
        for word in ("-1", "-0"):
            self.assertIsNone(read_number(word))
        for word in ("-0", "-01", "-1000000000", "--1", "-+1", "-a", "1-", "-1-"):
            self.assertIsNone(read_box(word), word)


class Uids(unittest.TestCase):
    def test_right_ones(self):
        for word, uids in (("-", ()), ("1", (1,)), ("1:2", (1, 2)), ("1:3,5", (1, 2, 3, 5)), ("-2,-1", (-2, -1)),
                           ("-3,-1,1:2,7", (-3, -1, 1, 2, 7)), ("-1,1", (-1, 1)), ("5,7:9,11", (5, 7, 8, 9, 11)),
                           ("999999998:999999999", (999999998, 999999999)), ("-999999999", (-999999999,)),
                           ("1:1000", tuple(range(1, 1001))), ("-1,1:999", (-1,) + tuple(range(1, 1000)))):
            self.assertEqual(read_uids(word), uids)
            self.assertEqual(show_uids(uids), word)
            self.assertEqual(show_value(uids), word)

    def test_nearly_right_ones(self):
        for word in ("", "0", "-0", "1,2", "1,2,3", "1:1", "2:1", "1:2,3", "1,2:3", "1:2,3:4", "1,1", "2,1", "1,",
                     ",1", "1,,3", "-1,-2", "-1,-1", "-2:-1", "-1:1", "1,-1", "-1:2", "0:2", "0,1", "01", "1:02",
                     "1:", ":2", "1:2:3", "a", "1-3", "-,1", "1,-", "--", "--1", "1:1001", "-1,1:1000", "1:999999999",
                     "1000000000", "999999999:1000000000", "1: 2", "1;2", "3:5,4:7", "-a", "1:a"):
            self.assertIsNone(read_uids(word), word)

    def test_a_thousand(self):
        uids = tuple(range(1, 2001, 2))
        self.assertEqual(read_uids(show_uids(uids)), uids)
        self.assertIsNone(read_uids(show_uids(uids + (2001,))))
        uids = tuple(range(-1000, 0))
        self.assertEqual(read_uids(show_uids(uids)), uids)
        self.assertIsNone(read_uids(show_uids((-1001,) + uids)))
        self.assertIsNone(read_uids("1:600,700:1200"))

    def test_by_chance(self):
        chance = random.Random(5)
        for _ in range(1000):
            most = chance.choice((5, 12, 40))
            drawn = {chance.randrange(-3, most) for _ in range(chance.randrange(0, 12))} - {0}
            uids = tuple(sorted(drawn))
            word = show_uids(uids)
            self.assertEqual(word, uids_word(uids))
            self.assertNotIn(" ", word)
            self.assertEqual(read_uids(word), uids)

    def test_every_other_word_is_refused(self):
        chance = random.Random(6)
        for _ in range(4000):
            word = "".join(chance.choice("1234-,:0") for _ in range(chance.randrange(1, 8)))
            uids = read_uids(word)
            if uids is not None:
                self.assertEqual(uids_word(uids), word)
                self.assertEqual(tuple(sorted(set(uids) - {0})), uids)


class Others(unittest.TestCase):
    def test_flags(self):
        for word, flags in (("-", ()), ("red", ("red",)), ("a,b", ("a", "b")), ("b,a,b", ("b", "a", "b")),
                            ("a,,b", ("a", "", "b")), (",", ("", "")), ("--", ("--",)), ("A1,?", ("A1", "?"))):
            self.assertEqual(read_flags(word), flags)
            self.assertEqual(show_flags(flags), word)

    def test_values(self):
        for value, word in ((None, "-"), (0, "0"), (17, "17"), (10 ** 12, "1000000000000"), ((), "-"), ((4,), "4"),
                            ((4, 5), "4:5")):
            self.assertEqual(show_value(value), word)

    def test_say(self):
        self.assertEqual(say(("bye",), None), "bye\n")
        self.assertEqual(say(["a", "b"], None), "a b\n")
        self.assertEqual(say(("a", "b"), ""), "a b {0}\n\n")
        self.assertEqual(say(("a",), "x\ny"), "a {3}\nx\ny\n")


if __name__ == "__main__":
    unittest.main()
