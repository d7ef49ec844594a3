"""What is a letter: l1, l2, l4."""

import random
import unittest

from oncemail.letters import is_letter, size_of
from tests import oracles
from tests.samples import (CODED, DEEP, LINES, PARTS, PLAIN, any_letter, deep, headed, lined, parted,
                           sized)

OTHERS = (None, True, False, 0, 1, "", "x", "a\nb", (), [], ("x",), ["x"], ("A", "b"), "letter", "lines", "parts")


def changed(thing):
    """All that comes of a thing by a change at one place."""
    for other in OTHERS:
        if type(other) is not type(thing) or other != thing:
            yield other
    if type(thing) is not tuple:
        return
    yield list(thing)
    yield thing[::-1]
    for at, part in enumerate(thing):
        yield thing[:at] + thing[at + 1:]
        yield thing[:at] + (part, part) + thing[at + 1:]
        for other in OTHERS:
            yield thing[:at] + (other,) + thing[at:]
        for other in changed(part):
            yield thing[:at] + (other,) + thing[at + 1:]


class Case(unittest.TestCase):
    def right(self, thing):
        with self.subTest(thing=thing):
            self.assertIs(is_letter(thing), True)

    def wrong(self, thing):
        with self.subTest(thing=thing):
            self.assertIs(is_letter(thing), False)


class Forms(Case):
    def test_right_letters(self):
        for letter in (PLAIN, LINES, CODED, PARTS, DEEP, lined(), lined(""), parted(PLAIN), parted(PARTS, PLAIN)):
            self.right(letter)

    def test_letters_by_chance(self):
        chance = random.Random(3)
        many = 0
        for _ in range(300):
            letter = any_letter(chance)
            self.assertIs(is_letter(letter), oracles.right_letter(letter), letter)
            many += oracles.right_letter(letter)
        self.assertGreater(many, 250)

    def test_one_place_changed(self):
        for letter in (PLAIN, LINES, CODED, PARTS, DEEP):
            for thing in changed(letter):
                wanted = oracles.right_letter(thing)
                if is_letter(thing) is not wanted:
                    self.fail(f"{thing!r} should be {wanted}")

    def test_some_changes_by_hand(self):
        head = (("A", "b"),)
        for thing in (
                None, True, 1, "", "letter", (), [], ("letter",), ("letter", head), ("letter", ("lines", ())),
                ["letter", head, ("lines", ())], ("letter", head, ("lines", ()), None),
                ("Letter", head, ("lines", ())), (None, head, ("lines", ())), ("filter", head, ("lines", ())),
                ("letter", list(head), ("lines", ())), ("letter", (["A", "b"],), ("lines", ())),
                ("letter", (("A",),), ("lines", ())), ("letter", (("A", "b", "c"),), ("lines", ())),
                ("letter", ("A", "b"), ("lines", ())), ("letter", (("A", None),), ("lines", ())),
                ("letter", ((None, "b"),), ("lines", ())), ("letter", (("A", 1),), ("lines", ())),
                ("letter", ((True, "b"),), ("lines", ())), ("letter", (("A", ("b",)),), ("lines", ())),
                ("letter", ("Ab",), ("lines", ())), ("letter", None, ("lines", ())), ("letter", "Ab", ("lines", ())),
                ("letter", (), ("lines", ())), ("letter", head, None), ("letter", head, ()),
                ("letter", head, ("lines",)), ("letter", head, ("lines", (), ())), ("letter", head, ["lines", ()]),
                ("letter", head, ("lines", [])), ("letter", head, ("lines", "abc")), ("letter", head, ("lines", None)),
                ("letter", head, ("Lines", ())), ("letter", head, ("line", ())), ("letter", head, (None, ())),
                ("letter", head, ("lines", (None,))), ("letter", head, ("lines", (1,))),
                ("letter", head, ("lines", (("a",),))), ("letter", head, ("lines", (True,))),
                ("letter", head, ("lines", ("a\nb",))), ("letter", head, ("lines", ("\n",))),
                ("letter", head, ("parts", ())), ("letter", head, ("parts", [PLAIN])),
                ("letter", head, ("parts", PLAIN)), ("letter", head, ("parts", (PLAIN, None))),
                ("letter", head, ("parts", ("a",))), ("letter", head, ("lines", (PLAIN,))),
                ("letter", head, ("parts", (list(PLAIN),))), ("letter", head, ("parts", (PLAIN, headed())))):
            self.wrong(thing)

    def test_what_is_handed_in_stays(self):
        thing = ["letter", [["A", "b"]], ["lines", ["x"]]]
        self.wrong(thing)
        self.assertEqual(thing, ["letter", [["A", "b"]], ["lines", ["x"]]])


class Headers(Case):
    def test_names(self):
        for name in ("A", "Z", "Ab", "From", "X-Ray", "A-B-C", "X-Long-Name", "A" + "b" * 19, "Abcdefghi-Jklmnopqrs",
                     "Part", "Partss", "Parts-A", "A-Parts"):
            self.right(headed((name, "x")))
            self.right(headed((name, "")))
        for name in ("", "a", "z", "from", "FROM", "fROM", "FroM", "aB", "AB", "-", "-A", "A-", "A--B", "X--Ray",
                     "X-ray", "x-Ray", "x-ray", "X-RAY", "A-b", "a-B", "A1", "1A", "A_b", "A b", " A", "A ", "A:", "A.b",
                     "A" + "b" * 20, "Abcdefghij-Jklmnopqrs", "Parts", "parts", "PARTS", "A\n", "A-B-", "-A-B", "A-1"):
            self.wrong(headed((name, "x")))
            self.wrong(headed((name, "")))
            self.wrong(headed(("A", "x"), (name, "x")))
            self.wrong(headed((name, "x"), ("A", "x")))
            self.wrong(parted(PLAIN, headed((name, "x"))))

    def test_texts(self):
        for text in ("", "x", "a b", "a  b", ":", "a:b", "<>", ",", "\"", "\\", "~", "!", "six"):
            self.right(headed(("A", text)))
        for text in (" ", " x", "x ", "  ", "x  ", "\n", "a\nb", "a\n", "\na"):
            self.wrong(headed(("A", text)))
            self.wrong(headed(("B", "x"), ("A", text)))
            self.wrong(parted(headed(("A", text))))

    def test_the_length_of_name_and_text(self):
        for name in ("A", "Subject", "A" + "b" * 19):
            self.right(headed((name, "x" * (498 - len(name)))))
            self.right(headed((name, ("x " * 260)[:497 - len(name)] + "x")))
            self.wrong(headed((name, "x" * (499 - len(name)))))
            self.wrong(headed((name, "x" * 600)))
            self.wrong(parted(headed((name, "x" * (499 - len(name))))))

    def test_how_many_headers(self):
        for many in (1, 2, 59, 60):
            self.right(headed(*[("A", "b")] * many))
        for many in (0, 61, 62, 100):
            self.wrong(headed(*[("A", "b")] * many))
            self.wrong(parted(headed(*[("A", "b")] * many)))

    def test_headers_may_be_alike(self):
        self.right(headed(("From", "x"), ("From", "x"), ("From", "y")))


class Bodies(Case):
    def test_lines(self):
        for many in (0, 1, 499, 500):
            self.right(lined("x" * many))
            self.right(lined("a", " " * many, ""))
        for many in (501, 502, 1000):
            self.wrong(lined("x" * many))
            self.wrong(lined("a", " " * many, ""))
            self.wrong(parted(PLAIN, lined("x" * many)))

    def test_how_many_parts(self):
        for many in (1, 2, 7, 8):
            self.right(parted(*[PLAIN] * many))
        for many in (0, 9, 10):
            self.wrong(parted(*[PLAIN] * many))
            self.wrong(parted(PLAIN, parted(*[PLAIN] * many)))

    def test_depth(self):
        for depth in range(5):
            self.right(deep(depth))
            self.right(deep(depth, CODED))
        for depth in (5, 6, 7):
            self.wrong(deep(depth))
        self.right(parted(PLAIN, deep(3), PLAIN, deep(2)))
        self.wrong(parted(PLAIN, deep(2), PLAIN, deep(4)))
        self.wrong(parted(deep(4), PLAIN))

    def test_size(self):
        for size in (4, 5, 500, 504, 505, 506, 19999, 20000):
            self.assertEqual(size_of(sized(size)), size)
            self.right(sized(size))
        for size in (20001, 20002, 25000):
            self.assertEqual(size_of(sized(size)), size)
            self.wrong(sized(size))

    def test_size_with_parts(self):
        # A: b, Parts: b0, an empty line, --b0 twice, --b0--
        more = 5 + 10 + 1 + 5 + 5 + 7
        self.right(parted(sized(9000), sized(11000 - more)))
        self.wrong(parted(sized(9000), sized(11001 - more)))
        self.wrong(parted(sized(10001), sized(10001)))
        self.assertEqual(size_of(parted(sized(9000), sized(11000 - more))), 20000)
        self.wrong(parted(sized(20000)))
        self.wrong(deep(4, sized(20000)))

    def test_size_with_folded_headers(self):
        # Each header of 500 signs in words is folded six times.
        row = ("A", ("xxxx " * 100)[:497].strip(" "))
        letter = headed(*[row] * 39)
        self.assertEqual(is_letter(letter), oracles.right_letter(letter))
        self.right(headed(*[row] * 39))
        self.wrong(headed(*[row] * 40))


class Codings(Case):
    def test_a_right_coding(self):
        for lines in ((), ("",), ("2l9A",), ("2l", "9A"), ("2l9A2l9A1u",), ("2d0",), ("3hku",), ("2l9A" * 125,)):
            self.right(("letter", (("Coding", "six"),), ("lines", lines)))
            self.right(parted(("letter", (("Coding", "six"),), ("lines", lines))))

    def test_a_wrong_coding(self):
        for lines in (("1",), ("2l9A1",), ("1v",), ("2d1",), ("3hkv",), ("----",), ("2l9A", "-"), ("2l 9A",), (" ",),
                      ("2l9!",), ("2l9A", "no digits"), ("2l9A", "a.b")):
            coded = ("letter", (("Coding", "six"),), ("lines", lines))
            self.wrong(coded)
            self.wrong(parted(PLAIN, coded))
            self.wrong(deep(4, coded))

    def test_only_the_first_header_of_this_name_counts(self):
        wrong = ("lines", ("no digits",))
        self.wrong(("letter", (("A", "b"), ("Coding", "six")), wrong))
        self.wrong(("letter", (("Coding", "six"), ("Coding", "seven")), wrong))
        self.wrong(("letter", (("Coding", "six"), ("A", "six")), wrong))
        self.right(("letter", (("Coding", "seven"), ("Coding", "six")), wrong))
        self.right(("letter", (("Coding", ""), ("Coding", "six")), wrong))

    def test_only_the_text_six_counts(self):
        for text in ("", "Six", "SIX", "six six", "six.", "s", "sixx", "6"):
            self.right(("letter", (("Coding", text),), ("lines", ("no digits",))))
        self.right(("letter", (("Codings", "six"),), ("lines", ("no digits",))))
        self.right(("letter", (("A-Coding", "six"),), ("lines", ("no digits",))))

    def test_the_lines_of_parts_are_their_own(self):
        parts = ("parts", (lined("no digits"), CODED))
        self.right(("letter", (("Coding", "six"),), parts))
        self.wrong(("letter", (("Coding", "six"),), ("parts", (("letter", (("Coding", "six"),), ("lines", ("1",))),))))


if __name__ == "__main__":
    unittest.main()
