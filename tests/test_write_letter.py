"""The texts of letters and their sizes: l3, l4."""

import random
import unittest

from oncemail.letters import is_letter, read_letter, size_of, write_letter
from tests import oracles
from tests.samples import (CODED, DEEP, LINES, NAMES, PARTS, PLAIN, any_letter, deep, headed, lined,
                           parted)


def text_of(*lines):
    return "".join(line + "\n" for line in lines)


class Case(unittest.TestCase):
    def written(self, letter, *lines):
        with self.subTest(letter=letter):
            self.assertEqual(write_letter(letter), text_of(*lines))
            self.assertEqual(size_of(letter), len(text_of(*lines)))
            self.assertEqual(read_letter(text_of(*lines)), letter)

    def folds(self, name, text, *lines):
        self.written(headed((name, text)), *lines, "")


class Plain(Case):
    def test_the_example(self):
        self.written(PLAIN, "From: Ann <ann@oak>", "Subject: two lamps", "")
        self.assertEqual(size_of(PLAIN), 40)

    def test_headers_and_lines(self):
        self.written(headed(("A", "")), "A:", "")
        self.written(headed(("A", ""), ("B", "x")), "A:", "B: x", "")
        self.written(lined(""), "A: b", "", "")
        self.written(lined("", ""), "A: b", "", "", "")
        self.written(lined("x", "", " y "), "A: b", "", "x", "", " y ")
        self.written(LINES, "A:", "X-Long-Name: x  y", "", "", "one two", " three ", "--b0")
        self.written(CODED, "Coding: six", "To: bo@elm", "", "2l9A", "", "2l", "9A")
        self.assertEqual(size_of(headed(("A", ""))), 4)

    def test_long_lines_of_a_body_are_not_folded(self):
        self.written(lined("a b " * 125), "A: b", "", "a b " * 125)


class Folding(Case):
    def test_78_and_79_signs(self):
        self.folds("A", "x" * 37 + " " + "y" * 37, "A: " + "x" * 37 + " " + "y" * 37)
        self.folds("A", "x" * 37 + " " + "y" * 38, "A: " + "x" * 37, " " + "y" * 38)
        self.folds("Subject", "x " * 34 + "x", "Subject: " + "x " * 34 + "x")
        self.folds("Subject", "x " * 34 + "xy", "Subject: " + "x " * 33 + "x", " xy")

    def test_the_last_gap_that_leaves_at_most_78_signs(self):
        for many in (73, 74, 75):
            lines = ["A: " + "x" * many + " y", " " + "z" * 20]
            if many > 73:
                lines = ["A: " + "x" * many, " y " + "z" * 20]
            self.folds("A", "x" * many + " y " + "z" * 20, *lines)
        self.folds("A", "a " + "x" * 73 + " y", "A: a " + "x" * 73, " y")
        self.folds("A", "a " + "x" * 74 + " y", "A: a", " " + "x" * 74 + " y")

    def test_the_first_gap_if_all_are_behind_the_78th_sign(self):
        self.folds("A", "x" * 76 + " y", "A: " + "x" * 76, " y")
        self.folds("A", "x" * 75 + " y", "A: " + "x" * 75, " y")
        self.folds("A", "x" * 100 + " y z", "A: " + "x" * 100, " y z")
        self.folds("A", "x" * 100 + " " + "y" * 100 + " " + "z" * 100,
                   "A: " + "x" * 100, " " + "y" * 100, " " + "z" * 100)

    def test_no_gap(self):
        self.folds("A", "x" * 76, "A: " + "x" * 76)
        self.folds("A", "x" * 497, "A: " + "x" * 497)
        self.folds("Subject", "x" * 71, "Subject: " + "x" * 71)
        self.folds("A", "a " + "x" * 400, "A: a", " " + "x" * 400)

    def test_a_line_that_is_left_is_cut_while_it_is_too_long(self):
        self.folds("A", "x" * 75 + " " + "y" * 77, "A: " + "x" * 75, " " + "y" * 77)
        self.folds("A", "x" * 75 + " " + "y" * 77 + " z", "A: " + "x" * 75, " " + "y" * 77, " z")
        self.folds("A", "x" * 75 + " " + "y" * 75 + " z", "A: " + "x" * 75, " " + "y" * 75 + " z")
        self.folds("A", "x" * 75 + " " + "y" * 76 + " z", "A: " + "x" * 75, " " + "y" * 76, " z")
        self.folds("A", "x" * 75 + " yy " + "y" * 90, "A: " + "x" * 75, " yy", " " + "y" * 90)
        words = " ".join(["word"] * 99)
        lines = write_letter(headed(("A", words))).split("\n")
        self.assertEqual([len(line) for line in lines], [77, 75, 75, 75, 75, 75, 45, 0, 0])

    def test_several_blanks_together_are_no_gap(self):
        self.folds("A", "x" * 40 + "  " + "y" * 60, "A: " + "x" * 40 + "  " + "y" * 60)
        self.folds("A", "a " + "x" * 40 + "  " + "y" * 60, "A: a", " " + "x" * 40 + "  " + "y" * 60)
        self.folds("A", "x" * 40 + "   " + "y" * 60 + " z", "A: " + "x" * 40 + "   " + "y" * 60, " z")
        self.folds("A", "a " + "x" * 73 + "  y", "A: a", " " + "x" * 73 + "  y")
        self.folds("A", "x  y  z" * 30, "A: " + "x  y  z" * 30)

    def test_the_blank_behind_the_colon_is_no_gap(self):
        for name in ("A", "Subject", "Abcdefghij-Klmnopqrs"):
            for many in (79, 100, 400):
                self.folds(name, "x" * many, name + ": " + "x" * many)
                self.folds(name, "x" * many + " y", name + ": " + "x" * many, " y")

    def test_colons_in_the_text(self):
        self.folds("A", "b: " + "x" * 75, "A: b:", " " + "x" * 75)
        self.folds("A", ": " + "x" * 75, "A: :", " " + "x" * 75)
        self.folds("A", "x " + "y" * 90 + ": " + "z" * 9, "A: x", " " + "y" * 90 + ":", " " + "z" * 9)

    def test_headers_by_chance(self):
        chance = random.Random(4)
        for _ in range(1500):
            name = chance.choice(NAMES)
            sign = chance.choice((4, 10, 30, 78))
            words = []
            while sum(map(len, words)) + len(words) < 470:
                words.append("x" * chance.randrange(1, sign + 1) + " " * chance.choice((0, 0, 0, 0, 1, 2)))
            text = " ".join(words)[:chance.choice((75, 80, 160, 477))].strip(" ")
            letter = headed((name, text))
            self.assertEqual(write_letter(letter), text_of(*oracles.folded(name, text), ""))
            self.assertEqual(read_letter(write_letter(letter)), letter)


class Boundaries(Case):
    def inner(self, *lines):
        letter = parted(lined(*lines), PLAIN)
        return write_letter(letter).split("\n")[1]

    def test_parts(self):
        self.written(parted(PLAIN), "A: b", "Parts: b0", "", "--b0", "From: Ann <ann@oak>", "Subject: two lamps", "",
                     "--b0--")
        self.written(parted(PLAIN, lined("x", "")), "A: b", "Parts: b0", "", "--b0", "From: Ann <ann@oak>",
                     "Subject: two lamps", "", "--b0", "A: b", "", "x", "", "--b0--")
        self.written(PARTS, "From: ann@oak", "Parts: b1", "", "--b1", "A:", "X-Long-Name: x  y", "", "", "one two",
                     " three ", "--b0", "--b1", "Coding: six", "To: bo@elm", "", "2l9A", "", "2l", "9A", "--b1",
                     "From: Ann <ann@oak>", "Subject: two lamps", "", "--b1--")

    def test_parts_stands_behind_all_headers(self):
        letter = ("letter", (("A", "b"), ("C", ""), ("Z", "y")), ("parts", (PLAIN,)))
        self.assertEqual(write_letter(letter).split("\n")[:5], ["A: b", "C:", "Z: y", "Parts: b0", ""])

    def test_the_smallest_number_that_is_free(self):
        for lines, number in (
                ((), 0), (("--b0",), 1), (("--b0--",), 1), (("--b0", "--b0--"), 1), (("--b1",), 0), (("--b1--",), 0),
                (("--b0", "--b1"), 2), (("--b0--", "--b1"), 2), (("--b0", "--b1--"), 2), (("--b1", "--b0"), 2),
                (("--b0", "--b2"), 1), (("--b0", "--b1", "--b2", "--b3", "--b4"), 5),
                (tuple(f"--b{n}" for n in range(12)), 12), (("--b0-",), 0), (("-b0",), 0), (("b0",), 0),
                (("--b0 ",), 0), ((" --b0",), 0), (("---b0",), 0), (("--b0---",), 0), (("--B0",), 0), (("--b00",), 0),
                (("--b",), 0), (("--b01",), 0), (("x--b0",), 0), (("--b0x",), 0), (("--b0--x",), 0), (("--",), 0)):
            with self.subTest(lines=lines):
                self.assertEqual(self.inner(*lines), f"Parts: b{number}")
                letter = parted(PLAIN, lined(*lines))
                self.assertEqual(read_letter(write_letter(letter)), letter)

    def test_boundaries_within_parts(self):
        for depth in range(1, 5):
            lines = write_letter(deep(depth)).split("\n")
            self.assertEqual(lines[1], f"Parts: b{depth - 1}")
            self.assertEqual(lines[-2], f"--b{depth - 1}--")
            self.assertEqual(read_letter(write_letter(deep(depth))), deep(depth))
        self.assertEqual(write_letter(parted(deep(1), deep(1), PLAIN)).split("\n")[1], "Parts: b1")
        self.assertEqual(write_letter(parted(PLAIN, deep(2), deep(1))).split("\n")[1], "Parts: b2")
        self.assertEqual(write_letter(parted(parted(lined("--b0")), PLAIN)).split("\n")[1], "Parts: b2")
        self.assertEqual(write_letter(parted(parted(lined("--b1")), PLAIN)).split("\n")[1], "Parts: b2")
        self.assertEqual(write_letter(parted(parted(lined("--b2")), PLAIN)).split("\n")[1], "Parts: b1")

    def test_each_line_of_the_parts_counts(self):
        self.assertEqual(self.inner("--b0", "x"), "Parts: b1")
        self.assertEqual(self.inner("x", "--b0"), "Parts: b1")
        self.assertEqual(write_letter(parted(PLAIN, PLAIN, lined("x", "--b0"))).split("\n")[1], "Parts: b1")
        self.assertEqual(write_letter(parted(lined("--b0"), lined("--b1--"))).split("\n")[1], "Parts: b2")


class Whole(Case):
    def test_letters_by_chance(self):
        chance = random.Random(5)
        for _ in range(400):
            letter = any_letter(chance)
            text = oracles.written(letter)
            if len(text) > 20000:
                continue
            self.assertEqual(write_letter(letter), text)
            self.assertEqual(size_of(letter), len(text))
            self.assertEqual(read_letter(text), letter)
            self.assertIs(is_letter(letter), True)

    def test_right_letters_are_read_back(self):
        for letter in (PLAIN, LINES, CODED, PARTS, DEEP, deep(4, PARTS[2][1][0])):
            self.assertEqual(read_letter(write_letter(letter)), letter)
            self.assertEqual(size_of(letter), len(write_letter(letter)))


if __name__ == "__main__":
    unittest.main()
