"""Letters from texts, and the errors of reading: l5, l6."""

import random
import unittest

from oncemail.errors import BadLetter
from oncemail.letters import is_letter, read_letter, write_letter
from tests import oracles
from tests.samples import PLAIN, any_letter, headed, lined, parted, sized

LONG = "x" * 501


def text_of(*lines):
    return "".join(line + "\n" for line in lines)


class Case(unittest.TestCase):
    def reads(self, text, letter):
        with self.subTest(text=text[:200]):
            self.assertEqual(read_letter(text), letter)
            self.assertEqual(read_letter(write_letter(letter)), letter)
            self.assertIs(is_letter(letter), True)

    def fails(self, text, line, reason):
        with self.subTest(text=text[:200]):
            with self.assertRaises(BadLetter) as caught:
                read_letter(text)
            self.assertEqual((caught.exception.line, caught.exception.reason), (line, reason))

    def fails_lines(self, lines, line, reason):
        self.fails(text_of(*lines), line, reason)
        self.fails("\n".join(lines) if lines[-1:] != [""] else text_of(*lines), line, reason)


class Headers(Case):
    def test_the_example(self):
        self.reads("from: Ann <ann@oak>\nSUBJECT:  two\n   lamps\n\n", PLAIN)

    def test_names_in_any_case(self):
        for name in ("x-long-name", "X-LONG-NAME", "X-Long-Name", "x-lONG-nAME", "X-long-Name"):
            self.reads(f"{name}: y\n\n", headed(("X-Long-Name", "y")))
        self.reads("a: 1\nB: 2\nsubject: 3\n", headed(("A", "1"), ("B", "2"), ("Subject", "3")))

    def test_pieces(self):
        for text in ("A: x y\n", "A:x y\n", "A:   x y  \n", "A: x\n y\n", "A:x\n  y\n", "A:\n x\n y\n", "A:  \n x y\n",
                     "A: x\n \n y\n", "A: x\n   \n \n y\n", "A: x  \n   y   \n", "A: x y\n \n", "A:\n \n x\n  \n y \n  \n",
                     "A: x y", "A: x\n y", "A: x y\n ", "A: x y\n\n", "a:x y\n    \n\n"):
            self.reads(text, headed(("A", "x y")))
        self.reads("A: x  y\n   z z\n", headed(("A", "x  y z z")))
        self.reads("A: x\n y\nB: z\n w\n", headed(("A", "x y"), ("B", "z w")))
        self.reads("A:\n", headed(("A", "")))
        self.reads("A:", headed(("A", "")))
        self.reads("A:   \n    \n", headed(("A", "")))
        self.reads("A: x:y\n", headed(("A", "x:y")))
        self.reads("A:: x\n", headed(("A", ": x")))
        self.reads("A: x\n B: y\n", headed(("A", "x B: y")))
        self.reads("A: x\n no colon\n", headed(("A", "x no colon")))

    def test_a_line_of_blanks_is_no_empty_line(self):
        self.reads("A: x\n \nB: y\n\n \n", ("letter", (("A", "x"), ("B", "y")), ("lines", (" ",))))
        self.reads("A: x\n\n\n", lined_with("A", "x", ""))
        self.reads("A: x\n    \n\nB: y\n", lined_with("A", "x", "B: y"))

    def test_lines(self):
        self.reads("A: b", lined())
        self.reads("A: b\n", lined())
        self.reads("A: b\n\n", lined())
        self.reads("A: b\n\n\n", lined(""))
        self.reads("A: b\n\n\n\n", lined("", ""))
        self.reads("A: b\n\nx", lined("x"))
        self.reads("A: b\n\nx\n", lined("x"))
        self.reads("A: b\n\nx\n\n", lined("x", ""))
        self.reads("A: b\n\n x \n\n  \ny", lined(" x ", "", "  ", "y"))
        self.reads("A: b\n\nC: d\n\n--b0\n", lined("C: d", "", "--b0"))

    def test_one_text_for_each_letter(self):
        for text in ("a:b", "A:  b\n", "a: b\n\n", "A:\n   b\n \n\n"):
            self.assertEqual(write_letter(read_letter(text)), "A: b\n\n")


def lined_with(name, text, *lines):
    return ("letter", ((name, text),), ("lines", lines))


class Parts(Case):
    def test_other_boundaries(self):
        for mark in ("b0", "b1", "b7", "x", "X", "0", "9z", "Parts", "a" * 20, "A1b2C3"):
            for lines in ((), ("", "x"), ("", "--", "--b", "---", "b0")):
                text = text_of("A: b", f"Parts: {mark}", "", f"--{mark}", "C: d", *lines, f"--{mark}--")
                self.reads(text, parted(lined_with("C", "d", *lines[1:])))

    def test_the_case_of_a_boundary_counts(self):
        self.reads("A: b\nParts: x\n\n--x\nC: d\n\n--X\n--X--\n--x--\n", parted(lined_with("C", "d", "--X", "--X--")))
        self.reads("A: b\nParts: x\n\n--x\nC: d\n\n --x\n--x \n--xx\n--x-\n--x--\n",
                   parted(lined_with("C", "d", " --x", "--x ", "--xx", "--x-")))

    def test_parts_anywhere_among_the_headers(self):
        wanted = ("letter", (("A", "b"), ("C", "d")), ("parts", (PLAIN,)))
        inner = ("--x", "From: Ann <ann@oak>", "Subject: two lamps", "", "--x--")
        for heads in (("Parts: x", "A: b", "C: d"), ("A: b", "Parts: x", "C: d"), ("A: b", "C: d", "Parts: x"),
                      ("A: b", "parts:x", "C: d"), ("A: b", "C: d", "PARTS:   x  "), ("pArTs:", "  x", "A: b", "C: d"),
                      ("A: b", "Parts:", " ", "   x", "  ", "C: d")):
            self.reads(text_of(*heads, "", *inner), wanted)
            self.reads(text_of(*heads, "", *inner)[:-1], wanted)

    def test_several_parts(self):
        for many in range(1, 9):
            lines = ["A: b", "Parts: x", ""]
            for at in range(many):
                lines += ["--x", f"N: {at}", "", "y"]
            wanted = parted(*[lined_with("N", str(at), "y") for at in range(many)])
            self.reads(text_of(*lines, "--x--"), wanted)

    def test_parts_without_an_empty_line_or_with_empty_ones(self):
        self.reads("A: b\nParts: x\n\n--x\nC: d\n--x\nE: f\n\n--x--", parted(headed(("C", "d")), headed(("E", "f"))))
        self.reads("A: b\nParts: x\n\n--x\nC: d\n\n\n--x--\n", parted(lined_with("C", "d", "")))

    def test_parts_within_parts(self):
        text = text_of("A: b", "Parts: x", "", "--x", "A: b", "Parts: y", "", "--y", "C: d", "", "z", "--y", "E: f",
                       "--y--", "--x", "G: h", "", "--y", "--x--")
        self.reads(text, parted(parted(lined_with("C", "d", "z"), headed(("E", "f"))), lined_with("G", "h", "--y")))

    def test_five_letters_within_each_other(self):
        self.reads(nested(4), oracles.read(nested(4)))
        letter = read_letter(nested(4))
        for _ in range(4):
            self.assertEqual(letter[2][0], "parts")
            letter = letter[2][1][0]
        self.assertEqual(letter, lined())


def nested(depth):
    """A text of this depth, from the outer one to the inner one with marks m0, m1 and so on."""
    heads = [line for at in range(depth) for line in ("A: b", f"Parts: m{at}", "", f"--m{at}")]
    return text_of(*heads, "A: b", "", *[f"--m{at}--" for at in reversed(range(depth))])


class TooLong(Case):
    def test_ahead_of_all(self):
        self.fails("x" * 20001, 0, "too long")
        self.fails(LONG * 40, 0, "too long")
        self.fails("A: b\n" + "\n" * 19996, 0, "too long")
        self.fails("\n" * 20001, 0, "too long")
        self.fails("\n" * 20000, 1, "no header")
        self.fails(" " * 20000, 1, "long line")

    def test_just_within_and_just_beyond(self):
        for size in (19999, 20000):
            self.reads(write_letter(sized(size)), sized(size))
        self.fails(write_letter(sized(20001)), 0, "too long")

    def test_the_size_of_what_was_read(self):
        text = write_letter(sized(20000)).replace("A:\n", "A: b\n", 1)
        self.fails(text, 0, "too long")
        self.assertEqual(len(text[:-2]), 20000)
        self.fails(text[:-2], 0, "too long")
        self.assertEqual(len(read_letter(text[:-3])[2][1]), len(sized(20000)[2][1]))
        text = text.replace("A: b", "A:b")
        self.fails(text[:-1], 0, "too long")
        text = write_letter(sized(20000))
        self.reads(text[:-1], sized(20000))
        self.fails(write_letter(sized(20001))[:-1], 0, "too long")

    def test_the_size_is_told_behind_all_else(self):
        text = write_letter(sized(20000))
        at = text.index("x" * 500)
        self.fails(text[:at] + "x" + text[at:-1], 3, "long line")
        text = "A:b\nParts: x\n\n--x\n" + text
        self.fails(text[:20000], text[:20000].count("\n") + 2, "bad boundary")


class HeaderFaults(Case):
    def test_long_line(self):
        self.reads("A: b\n" + " " * 500 + "\n", headed(("A", "b")))
        self.reads("A:" + " " * 498, headed(("A", "")))
        self.reads("A: b\n\n" + "x" * 500, lined("x" * 500))
        self.fails_lines(["A:" + " " * 499], 1, "long line")
        self.fails_lines(["A: b", "C:" + " " * 499], 2, "long line")
        self.fails_lines(["A: b", " " * 501], 2, "long line")
        self.fails_lines(["A: b", " ", " " * 501, "bad"], 3, "long line")
        self.fails_lines([LONG], 1, "long line")
        self.fails_lines([" " * 501], 1, "long line")
        self.fails_lines(["A: b", LONG + ":"], 2, "long line")
        self.fails_lines(["Parts:" + " " * 495 + "x"], 1, "long line")

    def test_bad_header(self):
        for line in ("x", "no colon", "-", ":", ": x", "1: x", "A1: x", "A b: x", "A : x", "-A: x", "A-: x", "A--B: x",
                     "A_B: x", "a" * 21 + ": x", "--x", "<x>: y", ".", "A.B: x", "a" * 10 + "-" + "b" * 10 + ":"):
            self.fails_lines([line], 1, "bad header")
            self.fails_lines([line, "A: b"], 1, "bad header")
            self.fails_lines(["A: b", line], 2, "bad header")
            self.fails_lines(["A: b", " c", line, "", "x"], 3, "bad header")
        for line in (" ", "   ", " A: b", " x"):
            self.fails_lines([line], 1, "bad header")
            self.fails_lines([line, "A: b", ""], 1, "bad header")
            self.fails_lines([line, line], 1, "bad header")
        self.reads("a" * 20 + ": x", headed(("A" + "a" * 19, "x")))
        self.reads("a" * 9 + "-" + "b" * 10 + ": x", headed(("A" + "a" * 8 + "-B" + "b" * 9, "x")))

    def test_long_header(self):
        self.reads("A: " + "x" * 497, headed(("A", "x" * 497)))
        self.reads("Subject:" + "x" * 491, headed(("Subject", "x" * 491)))
        self.reads("A: " + "x" * 300 + "\n " + "y" * 196, headed(("A", "x" * 300 + " " + "y" * 196)))
        self.reads("A:\n " + "y" * 497, headed(("A", "y" * 497)))
        self.fails_lines(["A:" + "x" * 498], 1, "long header")
        self.fails_lines(["Subject:" + "x" * 492], 1, "long header")
        self.fails_lines(["B: c", "A: " + "x" * 300, " " + "y" * 197], 2, "long header")
        self.fails_lines(["B: c", "A:", " " + "y" * 498, "bad"], 2, "long header")
        self.fails_lines(["B: c", "A:", " " + "y" * 498, "", "z"], 2, "long header")
        pieces = ("A:", " " + "y" * 400, "  z", " " * 400)
        self.reads(text_of(*pieces, " " + "y" * 94), headed(("A", "y" * 400 + " z " + "y" * 94)))
        self.fails_lines([*pieces, " " + "y" * 95], 1, "long header")
        self.fails_lines(["A: b", "Parts:" + "x" * 494], 2, "long header")
        self.fails_lines(["A: b", "Parts:" + "x" * 493], 2, "bad parts")
        self.fails_lines(["A: b", "Parts: x", "Parts:" + "x" * 494], 3, "long header")
        self.fails_lines(["A: b", "Parts: x", "Parts:" + "x" * 493], 3, "bad parts")

    def test_many_headers(self):
        rows = ["A: b"] * 60
        self.reads(text_of(*rows), headed(*[("A", "b")] * 60))
        self.fails_lines(rows + ["A: b"], 61, "many headers")
        self.fails_lines(rows + ["A: b", " c", ""], 61, "many headers")
        self.fails_lines(["A: b", " c"] + rows, 62, "many headers")
        self.fails_lines(rows + ["bad"], 61, "bad header")
        self.fails_lines(rows + ["A:" + "x" * 498], 61, "long header")
        self.fails_lines(rows + ["A: b", "bad"], 61, "many headers")
        self.fails_lines(["Parts: x"] + rows + ["A: b"], 62, "many headers")
        self.fails_lines(rows + ["Parts: -"], 61, "bad parts")
        inner = ("", "--x", "A: b", "--x--")
        wanted = ("letter", (("A", "b"),) * 60, ("parts", (lined(),)))
        self.reads(text_of(*rows, "Parts: x", *inner), wanted)
        self.reads(text_of("Parts: x", *rows, *inner), wanted)
        self.reads(text_of(*rows[30:], "Parts: x", *rows[:30], *inner), wanted)

    def test_bad_parts(self):
        for text in ("", " ", "-", "b-0", "b 0", "b_0", "b0.", "--b0", "b0--", "a" * 21, "\"b0\""):
            self.fails_lines(["A: b", "Parts: " + text, "", "--b0", "A: b", "--b0--"], 2, "bad parts")
        self.fails_lines(["A: b", "Parts: a", " b", "", "--a"], 2, "bad parts")
        self.fails_lines(["Parts: a", "A: b", "Parts: a", "", "--a", "C: d", "--a--"], 3, "bad parts")
        self.fails_lines(["Parts: a", "A: b", "parts: b", "", "--a", "C: d", "--a--"], 3, "bad parts")
        self.fails_lines(["Parts: -", "Parts: a"], 1, "bad parts")
        self.fails_lines(["Parts: a", "Parts: a", "Parts: a"], 2, "bad parts")
        self.fails_lines(["Parts: ", "bad"], 1, "bad parts")

    def test_too_deep(self):
        lines = nested(5).split("\n")[:-1]
        self.assertEqual(lines[17], "Parts: m4")
        self.fails_lines(lines, 18, "too deep")
        self.fails_lines(lines[:17] + ["PARTS:", "  m4"] + lines[18:], 18, "too deep")
        self.fails_lines(lines[:17] + ["Parts: -"] + lines[18:], 18, "bad parts")
        self.fails_lines(lines[:17] + ["Parts: m4", "Parts: m4"] + lines[18:], 18, "too deep")
        self.fails_lines(lines[:17] + ["Parts:" + "x" * 494] + lines[18:], 18, "long header")
        self.fails_lines(lines[:16] + ["bad", "Parts: m4"] + lines[18:], 17, "bad header")
        self.fails_lines(lines[:18] + ["bad"] + lines[19:], 18, "too deep")
        self.fails_lines(lines[:16] + ["Parts: m4", "A: b"] + lines[18:], 17, "too deep")
        self.fails_lines(nested(6).split("\n")[:-1], 18, "too deep")
        text = nested(4).replace("A: b\n\n--m3--", "A: b\n\nParts: z\n--m3--")
        self.reads(text, oracles.read(text))

    def test_the_fault_with_the_smallest_line_number(self):
        self.fails_lines(["A: b", "bad", LONG], 2, "bad header")
        self.fails_lines(["A: b", LONG, "bad"], 2, "long line")
        self.fails_lines(["A:" + "x" * 400, " " + "y" * 400, "bad"], 1, "long header")
        self.fails_lines(["A: b", " " * 501, "C:" + "x" * 498], 2, "long line")
        self.fails_lines(["A:" + "x" * 498, " " * 501], 1, "long header")
        self.fails_lines(["Parts: -", " " * 501], 1, "bad parts")
        self.fails_lines(["bad", " " * 501], 1, "bad header")
        self.fails_lines(["A: b"] * 60 + ["A: b", " " * 501], 61, "many headers")

    def test_several_faults_of_one_line(self):
        self.fails_lines(["A" * 501], 1, "long line")
        self.fails_lines(["A B:" + "x" * 499], 1, "long line")
        self.fails_lines(["A B:" + "x" * 496], 1, "bad header")
        self.fails_lines([" " + "x" * 500], 1, "long line")
        self.fails_lines(["A" * 21 + ":" + "x" * 478], 1, "bad header")
        self.fails_lines(["A: b"] * 60 + ["A:" + "x" * 499], 61, "long line")
        self.fails_lines(["A: b"] * 60 + ["A" * 500], 61, "bad header")


class NoHeader(Case):
    def test_the_whole(self):
        self.fails("", 1, "no header")
        self.fails("\n", 1, "no header")
        self.fails("\n\n\n", 1, "no header")
        self.fails("\nA: b\n", 1, "no header")
        self.fails("\n" + LONG, 1, "no header")
        self.fails("\nbad\n" + LONG, 1, "no header")

    def test_with_parts_alone(self):
        self.fails("Parts: x", 2, "no header")
        self.fails("Parts: x\n", 2, "no header")
        self.fails("Parts: x\n\n", 2, "no header")
        self.fails("Parts:\n x\n", 3, "no header")
        self.fails("Parts:\n x\n\n--x\n", 3, "no header")
        self.fails("Parts: x\n\n--x\nA: b\n--x--\n", 2, "no header")
        self.fails("Parts: x\n\nbad boundary\n", 2, "no header")

    def test_within_parts(self):
        self.fails_lines(["A: b", "Parts: x", "", "--x", "--x--"], 5, "no header")
        self.fails_lines(["A: b", "Parts: x", "", "--x", "", "--x--"], 5, "no header")
        self.fails_lines(["A: b", "Parts: x", "", "--x", "", "", "A: b", "--x--"], 5, "no header")
        self.fails_lines(["A: b", "Parts: x", "", "--x", "A: b", "--x", "--x--"], 7, "no header")
        self.fails_lines(["A: b", "Parts: x", "", "--x", "--x", "A: b", "--x--"], 5, "no header")
        self.fails_lines(["A: b", "Parts: x", "", "--x", "Parts: y", "--x", "A: b", "--x--"], 6, "no header")
        self.fails_lines(["A: b", "Parts: x", "", "--x", "Parts: y", "", "--y", "A: b", "--y--", "--x--"], 6,
                         "no header")
        self.fails_lines(["A: b", "Parts: x", "", "--x", "A: b", "Parts: y", "", "--y", "--y--", "--x--"], 9,
                         "no header")


class BoundaryFaults(Case):
    def test_the_first_line(self):
        head = ["A: b", "Parts: x", ""]
        for line in ("x", "", " --x", "--x ", "-x", "--x--", "--X", "---x", "--y", "--xx", LONG):
            self.fails_lines(head + [line, "--x", "A: b", "--x--"], 4, "bad boundary")
        self.fails("A: b\nParts: x\n\n\n", 4, "bad boundary")

    def test_no_line_of_a_body(self):
        self.fails("A: b\nParts: x", 3, "bad boundary")
        self.fails("A: b\nParts: x\n", 3, "bad boundary")
        self.fails("A: b\nParts: x\n\n", 4, "bad boundary")
        self.fails("Parts: x\n \nA: b\n c\n", 5, "bad boundary")

    def test_a_line_behind(self):
        head = ["A: b", "Parts: x", "", "--x", "A: b"]
        for line in ("x", "--x", "--x--", " ", "--y", LONG):
            self.fails_lines(head + ["--x--", line], 7, "bad boundary")
            self.fails_lines(head + ["--x--", line, "y", "z"], 7, "bad boundary")
        self.fails(text_of(*head, "--x--", ""), 7, "bad boundary")

    def test_no_end(self):
        head = ["A: b", "Parts: x", "", "--x"]
        self.fails_lines(head, 5, "bad boundary")
        self.fails_lines(head + ["A: b"], 6, "bad boundary")
        self.fails_lines(head + ["A: b", "", "--x"], 8, "bad boundary")
        self.fails_lines(head + ["A: b", "", "--x--x", " --x--"], 9, "bad boundary")

    def test_many_parts(self):
        head = ["A: b", "Parts: x", ""]
        self.reads(text_of(*head, *["--x", "A: b"] * 8, "--x--"), parted(*[lined()] * 8))
        self.fails_lines(head + ["--x", "A: b"] * 9 + ["--x--"], 20, "many parts")
        self.fails_lines(head + ["--x", "A: b"] * 9, 20, "many parts")
        self.fails_lines(head + ["--x", "A: b"] * 12 + ["--x--", "y"], 20, "many parts")
        self.fails_lines(head + ["--x"] * 9, 12, "many parts")
        self.fails_lines(head + ["--x"] * 8, 12, "bad boundary")
        self.fails_lines(head + ["--x", "A: b"] * 8 + ["--x--", "--x"], 21, "bad boundary")

    def test_within_parts(self):
        head = ["A: b", "Parts: x", "", "--x", "C: d", "Parts: y"]
        self.fails_lines(head + ["--x--"], 7, "bad boundary")
        self.fails_lines(head + ["", "--x--"], 8, "bad boundary")
        self.fails_lines(head + ["", "z", "--x--"], 8, "bad boundary")
        self.fails_lines(head + ["", "--y", "E: f", "--x--"], 10, "bad boundary")
        self.fails_lines(head + ["", "--y", "E: f", "--x", "G: h", "--x--"], 10, "bad boundary")
        self.fails_lines(head + ["", "--y", "E: f", "--y--", "z", "--x--"], 11, "bad boundary")
        self.fails_lines(head + [""] + ["--y", "E: f"] * 9 + ["--y--", "--x--"], 24, "many parts")

    def test_the_same_boundary_within(self):
        self.fails_lines(["A: b", "Parts: x", "", "--x", "C: d", "Parts: x", "", "--x", "E: f", "--x--", "--x--"], 11,
                         "bad boundary")


class Order(Case):
    def test_headers_ahead_of_bodies(self):
        self.fails_lines(["A: b", "bad", "", LONG], 2, "bad header")
        self.fails_lines(["A: b", "Parts: x", "bad", "", "z"], 3, "bad header")
        self.fails_lines(["A: b", "", LONG, "bad"], 3, "long line")

    def test_boundaries_ahead_of_parts(self):
        self.fails_lines(["A: b", "Parts: x", "", "--x", "bad"], 6, "bad boundary")
        self.fails_lines(["A: b", "Parts: x", "", "--x", "bad", "--x--", "z"], 7, "bad boundary")
        self.fails_lines(["A: b", "Parts: x", "", "--x", "bad"] + ["--x"] * 8, 13, "many parts")
        self.fails_lines(["A: b", "Parts: x", "", "--x", "--x", "--x"], 7, "bad boundary")

    def test_the_first_part_that_has_an_error(self):
        head = ["A: b", "Parts: x", "", "--x"]
        self.fails_lines(head + ["A: b", "", LONG, "--x", "bad", "--x--"], 7, "long line")
        self.fails_lines(head + ["A: b", "", "y", "--x", "bad", "--x", LONG, "--x--"], 9, "bad header")
        self.fails_lines(head + ["Coding: six", "", "-", "--x", "--x--"], 7, "bad coding")
        self.fails_lines(head + ["--x", "bad", "--x--"], 5, "no header")
        self.fails_lines(head + ["A: b", "Parts: y", "", "--y", "bad", "--y--", "--x", "bad", "--x--"], 9, "bad header")
        self.fails_lines(head + ["A: b", "Parts: y", "", "--y", "A: b", "--y--", "--x", "bad", "--x--"], 12,
                         "bad header")

    def test_lines_of_parts_keep_their_numbers(self):
        head = ["A: b", "Parts: x", "", "--x", "A: b", "", "y", "--x", "A: b", "Parts: y", "", "--y"]
        tail = ["--y--", "--x--"]
        self.fails_lines(head + ["A: b", "", "z", LONG] + tail, 16, "long line")
        self.fails_lines(head + ["A: b", "bad"] + tail, 14, "bad header")
        self.fails_lines(head + ["Coding: six", "", "2l9A", "1", "v"] + tail, 17, "bad coding")
        self.fails_lines(head + ["A:" + "x" * 498] + tail, 13, "long header")
        self.fails_lines(head + ["A: b"] * 61 + tail, 73, "many headers")
        self.fails_lines(head + ["Parts: -"] + tail, 13, "bad parts")


class BodyFaults(Case):
    def test_long_line(self):
        self.reads("A: b\n\n" + "x" * 500 + "\n", lined("x" * 500))
        self.fails_lines(["A: b", "", LONG], 3, "long line")
        self.fails_lines(["A: b", "", "x", "", LONG, LONG], 5, "long line")
        self.fails_lines(["A: b", "", " " * 501], 3, "long line")

    def test_coding(self):
        self.reads("coding: six\n\n2l9A\n\n2l\n9A\n", ("letter", (("Coding", "six"),), ("lines", ("2l9A", "", "2l", "9A"))))
        self.reads("Coding: six", ("letter", (("Coding", "six"),), ("lines", ())))
        self.fails_lines(["Coding: six", "", "2l9A", "2l 9"], 4, "bad coding")
        self.fails_lines(["CODING:", "  six ", "", "2l9A", "2l", "", "-"], 7, "bad coding")
        self.fails_lines(["A: b", "Coding: six", "", "1", "", "v"], 6, "bad coding")
        self.fails_lines(["Coding: six", "", "1v"], 3, "bad coding")
        self.fails_lines(["Coding: six", "", "----", "!"], 4, "bad coding")
        self.fails_lines(["Coding: six", "", "-----", LONG], 4, "long line")
        self.fails_lines(["Coding: six", "", "?", "0" * 500, "0" * 501], 5, "long line")
        self.fails_lines(["Coding: six", "Coding: seven", "", "1"], 4, "bad coding")

    def test_lines_that_need_be_no_coding(self):
        for heads in (("Coding: seven", "Coding: six"), ("Coding: Six",), ("Coding: six six",), ("Coding:", "Coding: six"),
                      ("Codings: six",)):
            text = text_of(*heads, "", "no digits")
            self.reads(text, oracles.read(text))


class Chance(Case):
    def test_texts_by_chance(self):
        chance = random.Random(6)
        told = []
        for _ in range(2500):
            lines = oracles.written_lines(any_letter(chance))
            for _ in range(chance.choice((0, 1, 1, 2, 4))):
                lines = spoiled(lines, chance)
            text = "\n".join(lines)[:20000] + chance.choice(("", "\n"))
            try:
                wanted = oracles.read(text)
            except oracles.Fault as fault:
                told.append(fault.told[1])
                self.fails(text, *fault.told)
            else:
                told.append("right")
                self.assertEqual(read_letter(text), wanted)
                self.assertEqual(read_letter(write_letter(wanted)), wanted)
        self.assertGreaterEqual(len(set(told)), 9)


def spoiled(lines, chance):
    """The lines with a change at one place."""
    at = chance.randrange(len(lines) + 1)
    line = lines[at % len(lines)] if lines else ""
    kind = chance.randrange(9)
    if kind == 0:
        return lines[:at] + lines[at + 1:]
    if kind == 1:
        return lines[:at] + [chance.choice(lines or [""])] + lines[at:]
    if kind == 2:
        return lines[:at] + [""] + lines[at:]
    if kind == 3:
        return lines[:at] + [" " + line] + lines[at + 1:]
    if kind == 4:
        return lines[:at] + [chance.choice(("--b0", "--b0--", "--b1", "--b1--"))] + lines[at:]
    if kind == 5:
        return lines[:at] + [chance.choice(("Parts: b0", "parts: b1", "Parts: -", "Coding: six", "bad", " ", ": x"))] + lines[at:]
    if kind == 6:
        return lines[:at] + [line.upper()] + lines[at + 1:]
    if kind == 7:
        return lines[:at] + [line + chance.choice((" ", "x", "x" * 300, " " * 499, " y" * 220))] + lines[at + 1:]
    return lines[:at] + [line] * chance.choice((2, 3, 8, 61)) + lines[at + 1:]


if __name__ == "__main__":
    unittest.main()
