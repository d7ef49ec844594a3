"""j1: plain values as text."""

import random
import unittest

from oncemail.errors import BadPlain, MailError
from oncemail.plain import read_plain, show_plain
from tests.samples import SIGNS


def nested(depth):
    value = ()
    for _ in range(depth - 1):
        value = (value,)
    return value


def any_value(chance, depth=4):
    kind = chance.randrange(9)
    if kind < 2:
        return chance.choice((0, 1, -1, 7, 10, -10, 123456789012345678901234567890, chance.randrange(-999, 999)))
    if kind < 4:
        return chance.choice((True, False, None))
    if kind < 6 or depth == 0:
        return "".join(chance.choice(SIGNS + "\\\"\n\\\"\n") for _ in range(chance.randrange(0, 6)))
    return tuple(any_value(chance, depth - 1) for _ in range(chance.randrange(0, 4)))


VALID = set("0123456789")


def place_of_fault(text):
    """The place of the fault by j1, found by a walk over states; None if there is no fault."""
    at = 0
    depth = 0
    expect = "value"
    while True:
        if at == len(text):
            return None if expect == "end" else at
        sign = text[at]
        if expect == "end":
            return at
        if expect == "join":
            if sign == ")":
                depth -= 1
                expect = "join" if depth else "end"
            elif sign == " ":
                expect = "value"
            else:
                return at
            at += 1
            continue
        after = "join" if depth else "end"
        if sign == ")" and expect == "first":
            depth -= 1
            expect = "join" if depth else "end"
            at += 1
        elif sign == "(" and depth < 60:
            depth += 1
            expect = "first"
            at += 1
        elif sign in "TFN":
            expect = after
            at += 1
        elif sign == "\"":
            at += 1
            while at < len(text) and text[at] != "\"":
                if text[at] == "\\":
                    at += 1
                    if at == len(text):
                        return at
                    if text[at] not in "\\\"n":
                        return at
                elif text[at] == "\n" or text[at] not in SIGNS:
                    return at
                at += 1
            if at == len(text):
                return at
            at += 1
            expect = after
        elif sign in VALID or sign == "-":
            if sign == "-":
                at += 1
                if at == len(text) or text[at] not in "123456789":
                    return at
            digits = 0
            if text[at] == "0":
                at += 1
            else:
                while at < len(text) and text[at] in VALID and digits < 4000:
                    at += 1
                    digits += 1
            expect = after
        else:
            return at


class Showing(unittest.TestCase):
    def test_each_kind(self):
        for value, text in ((0, "0"), (12, "12"), (-7, "-7"), (True, "T"), (False, "F"), (None, "N"), ("", '""'),
                            ("a b", '"a b"'), ('\\"\n', '"\\\\\\"\\n"'), ((), "()"), ((1,), "(1)"),
                            (("a", 2, (None, True)), '("a" 2 (N T))'), (10 ** 3999, "1" + "0" * 3999)):
            self.assertEqual(show_plain(value), text)
            back = read_plain(text)
            self.assertEqual(back, value)
            self.assertIs(type(back), type(value))

    def test_all_signs(self):
        self.assertEqual(read_plain(show_plain(SIGNS)), SIGNS)
        self.assertEqual(show_plain(SIGNS).count("\n"), 0)

    def test_there_and_back_by_chance(self):
        chance = random.Random(1)
        for _ in range(2000):
            value = any_value(chance)
            text = show_plain(value)
            self.assertEqual(repr(read_plain(text)), repr(value))
            self.assertNotIn("\n", text)


class Reading(unittest.TestCase):
    def refused(self, text, place):
        with self.assertRaises(BadPlain) as caught:
            read_plain(text)
        self.assertEqual(caught.exception.place, place, text[:80])
        self.assertIsInstance(caught.exception, MailError)

    def test_places(self):
        for text, place in (("x", 0), (" 1", 0), (")", 0), ("+1", 0), ("t", 0), ("\n", 0), ("(1  2)", 3),
                            ("(1 )", 3), ("( 1)", 1), ("(1,2)", 2), ("()1", 2), ("1 ", 1), ("1 2", 1), ("TT", 1),
                            ('""x', 2), ('"a"\n', 3), ("(()()", 3), ("-x", 1), ("--1", 1), ("1-", 1), ("(1-2)", 2),
                            ("-()", 1), ('"\\x"', 2), ('"\\N"', 2), ('"a\nb"', 2), ('"a%b"', 2), ('"a\tb"', 2),
                            ('"a\x7f"', 2), ('"\u00e9"', 1), ("\u0661", 0), ("1\u0661", 1), ("(1\n)", 2),
                            ('"a%', 2), ('"%\\', 1), ('"\\\\\\x', 4), ("N N", 1), ("(1)(2)", 3)):
            self.refused(text, place)

    def test_texts_that_end_too_early(self):
        whole = show_plain(("a\\b\"c\nd", (1, -20, ()), True, None, "e"))
        for end in range(len(whole)):
            self.refused(whole[:end], end)
        for text in ("", "-", '"', '"\\', "(", "(1", "(1 ", '("a" "b'):
            self.refused(text, len(text))

    def test_signs_behind_the_end(self):
        for value in (0, 5, -3, "", "a", (), (1,), True, None):
            text = show_plain(value)
            for more in (" ", ")", "(", "\"", "\n", "x", "%", "-"):
                self.refused(text + more, len(text))

    def test_zeros(self):
        for text, place in (("00", 1), ("01", 1), ("-0", 1), ("-01", 1), ("(-0)", 2), ("(1 01)", 4), ("-", 1)):
            self.refused(text, place)
        self.assertEqual(read_plain("100"), 100)
        self.assertEqual(read_plain("(0 0)"), (0, 0))

    def test_4000_digits(self):
        for ahead in ("", "-"):
            self.assertEqual(read_plain(ahead + "9" * 4000), int(ahead + "9" * 4000))
            self.refused(ahead + "9" * 4001, len(ahead) + 4000)
            self.refused("(" + ahead + "9" * 4001 + ")", len(ahead) + 4001)
            self.refused(ahead + "9" * 9000, len(ahead) + 4000)

    def test_depth(self):
        self.assertEqual(read_plain("(" * 60 + ")" * 60), nested(60))
        self.assertEqual(show_plain(nested(60)), "(" * 60 + ")" * 60)
        self.refused("(" * 61 + ")" * 61, 60)
        self.refused("(" * 5000, 60)
        self.refused("(1 " * 61, 180)
        self.assertEqual(read_plain("(" + "() " * 99 + "())"), ((),) * 100)

    def test_changed_by_chance(self):
        chance = random.Random(2)
        many = 0
        for _ in range(6000):
            text = show_plain(any_value(chance))
            for _ in range(chance.randrange(1, 3)):
                at = chance.randrange(0, len(text) + 1)
                cut = chance.randrange(0, 2)
                more = chance.choice(("", "0", "1", " ", "(", ")", "\"", "\\", "-", "T", "n", "%", "\n", "x"))
                text = text[:at] + more + text[at + cut:]
            place = place_of_fault(text)
            if place is None:
                self.assertEqual(show_plain(read_plain(text)), text)
            else:
                many += 1
                self.refused(text, place)
        self.assertGreater(many, 1000)


if __name__ == "__main__":
    unittest.main()
