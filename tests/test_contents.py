"""What is read of a letter: l8, l9, l10, c1 for terms."""

import random
import re
import unittest

from oncemail.codings import write_coding
from oncemail.contents import (addresses_of, content_of, headers_of, id_of, outline, part_of,
                               references_of, terms_in, terms_of, writer_of)
from oncemail.errors import BadText
from oncemail.letters import size_of
from tests.samples import CODED, DEEP, LINES, PARTS, PLAIN, SIGNS, any_letter, deep, headed, lined, parted

ANN = ("at", "ann", "oak")
BO = ("at", "bo", "elm")


def coded(text, *headers):
    return ("letter", headers + (("Coding", "six"),), ("lines", write_coding(text)))


class Case(unittest.TestCase):
    def same(self, call, *rows):
        for *arguments, wanted in rows:
            with self.subTest(arguments=arguments):
                self.assertEqual(call(*arguments), wanted)
                self.assertIs(type(call(*arguments)), type(wanted))


class Headers(Case):
    letter = headed(("From", "x"), ("X-Ray", "one"), ("From", ""), ("X-Ray", "two  three"), ("From", "x"))

    def test_headers_of(self):
        self.same(headers_of, (self.letter, "From", ("x", "", "x")), (self.letter, "X-Ray", ("one", "two  three")),
                  (self.letter, "Subject", ()), (self.letter, "X", ()), (self.letter, "Ray", ()),
                  (self.letter, "Parts", ()), (self.letter, "parts", ()), (PARTS, "Parts", ()), (PARTS, "parts", ()))

    def test_names_in_any_case(self):
        for name in ("from", "FROM", "fRoM", "From"):
            self.same(headers_of, (self.letter, name, ("x", "", "x")))
        for name in ("x-ray", "X-RAY", "X-ray", "x-Ray", "x-rAY"):
            self.same(headers_of, (self.letter, name, ("one", "two  three")))

    def test_headers_of_parts_do_not_count(self):
        letter = ("letter", (("A", "b"),), ("parts", (headed(("From", "ann@oak"), ("A", "c")),)))
        self.same(headers_of, (letter, "From", ()), (letter, "A", ("b",)))
        self.same(writer_of, (letter, None))
        self.same(addresses_of, (letter, "from", ()))
        self.same(terms_of, (letter, "From", ()), (letter, "A", ("b",)))


class Addresses(Case):
    def test_writer(self):
        for text in ("ann@oak", "Ann <ann@oak>", "<ann@oak>", "Ann<ann@oak>", "Ann  Lee <ann@oak>", "x@y <ann@oak>"):
            self.same(writer_of, (headed(("A", "b"), ("From", text)), ANN))
        for text in ("", "ann", "Ann", "ann@oak, bo@elm", "ann@oak,", "Ann@oak", "< ann@oak>", "ann@oak x", "ann@oak1",
                     "Lee, Ann <ann@oak>", "<ann@oak> <bo@elm>"):
            self.same(writer_of, (headed(("From", text)), None))
        self.same(writer_of, (PLAIN, ANN), (headed(("To", "ann@oak")), None), (headed(("A", "b")), None))

    def test_only_the_first_header_has_the_writer(self):
        self.same(writer_of, (headed(("From", "bo@elm"), ("From", "ann@oak")), BO),
                  (headed(("From", "x"), ("From", "ann@oak")), None), (headed(("From", ""), ("From", "ann@oak")), None))

    def test_addresses(self):
        letter = headed(("To", "ann@oak, x, Bo <bo@elm>"), ("Cc", "bo@elm"), ("To", ",,ann@oak ,"), ("To", ""))
        self.same(addresses_of, (letter, "To", (ANN, BO, ANN)), (letter, "to", (ANN, BO, ANN)),
                  (letter, "TO", (ANN, BO, ANN)), (letter, "Cc", (BO,)), (letter, "CC", (BO,)), (letter, "From", ()),
                  (letter, "Parts", ()), (letter, "parts", ()))

    def test_pieces_that_are_no_addresses(self):
        for text, wanted in (
                ("Lee, Ann <ann@oak>", (ANN,)), ("ann@oak bo@elm", ()), ("Ann <ann@oak", ()), ("a <x, ann@oak>", ()),
                ("<ann@oak>,<bo@elm>", (ANN, BO)), ("ann@oak,Bo@elm,bo@elm", (ANN, BO)), ("  ann@oak  ", (ANN,)),
                (",", ()), ("", ()), ("x", ()), ("ann@oak;bo@elm", ()), ("bo@elm,ann@oak,bo@elm", (BO, ANN, BO))):
            self.same(addresses_of, (headed(("To", text.strip(" "))), "To", wanted))


class Ids(Case):
    def test_id(self):
        for text in ("m1", "m1@x", "<m1>", "a,b:c", "-", "x" * 496, "Re:"):
            self.same(id_of, (headed(("A", "b"), ("Id", text)), text))
        for text in ("", "m1 m2", "m1  m2", "a b c"):
            self.same(id_of, (headed(("Id", text)), ""))
        self.same(id_of, (PLAIN, ""), (headed(("Id", "m1"), ("Id", "m2")), "m1"), (headed(("Id", ""), ("Id", "m2")), ""),
                  (headed(("Id", "a b"), ("Id", "m2")), ""), (headed(("Re", "m1")), ""),
                  (parted(headed(("Id", "m1"))), ""))

    def test_references(self):
        self.same(references_of, (PLAIN, ()), (headed(("Re", "a b"), ("A", "x"), ("Re", "c")), ("a", "b", "c")),
                  (headed(("Re", "")), ()), (headed(("Re", "b  a   b")), ("b", "a", "b")),
                  (headed(("Re", ""), ("Re", "m1,m2 <m3>")), ("m1,m2", "<m3>")), (parted(headed(("Re", "a"))), ()),
                  (headed(("References", "a")), ()))


class Contents(Case):
    def test_lines(self):
        self.same(content_of, (PLAIN, ""), (lined(), ""), (lined(""), ""), (lined("", ""), "\n"), (lined("x"), "x"),
                  (lined("x", "", " y "), "x\n\n y "), (LINES, "\none two\n three \n--b0"))

    def test_codings(self):
        self.same(content_of, (CODED, "cabcab"), (coded(""), ""), (coded("a\nb"), "a\nb"), (coded("\n"), "\n"),
                  (coded(SIGNS), SIGNS), (coded("x y", ("A", "b"), ("To", "z")), "x y"))
        lines = ("lines", ("2l9A",))
        self.same(content_of, (("letter", (("Coding", "seven"), ("Coding", "six")), lines), "2l9A"),
                  (("letter", (("Coding", "Six"),), lines), "2l9A"),
                  (("letter", (("Coding", "six"), ("Coding", "seven")), lines), "cab"))

    def test_parts(self):
        self.same(content_of, (parted(lined("x"), lined("y", "z")), "x\ny\nz"), (parted(lined(), lined()), "\n"),
                  (parted(lined()), ""), (parted(lined("x"), parted(lined("y"), lined()), coded("a\nb")), "x\ny\n\na\nb"),
                  (("letter", (("Coding", "six"),), ("parts", (lined("2l9A"), CODED))), "2l9A\ncabcab"),
                  (deep(4, coded("cab")), "cab"), (PARTS, "\none two\n three \n--b0\ncabcab\n"))


class Terms(Case):
    def test_terms_in(self):
        self.same(terms_in, ("", ()), (" ", ()), ("\n", ()), ("-<>!~", ()), ("a", ("a",)), ("A", ("a",)), ("7", ("7",)),
                  ("two lamps", ("lamps", "two")), ("b a b A B", ("a", "b")), ("a1 a 1a 1", ("1", "1a", "a", "a1")),
                  ("x-ray", ("ray", "x")), ("a_b", ("a", "b")), ("it's", ("it", "s")), ("a\nb", ("a", "b")),
                  ("Ann <ann@oak>", ("ann", "oak")), ("ABC abc AbC", ("abc",)), ("10 9 010", ("010", "10", "9")),
                  ("x" * 1000, ("x" * 1000,)), ("a.b,c;d:e", ("a", "b", "c", "d", "e")))

    def test_each_sign(self):
        for sign in SIGNS:
            wanted = ("x" + sign.lower() + "y",) if re.fullmatch("[A-Za-z0-9]", sign) else ("x", "y")
            self.same(terms_in, ("X" + sign + "Y", wanted))

    def test_texts_by_chance(self):
        chance = random.Random(7)
        for many in (10, 100, 1000, 20000):
            text = "".join(chance.choice(SIGNS) for _ in range(many))
            self.same(terms_in, (text, tuple(sorted(set(re.findall("[a-z0-9]+", text.lower()))))))

    def test_the_example(self):
        self.same(terms_of, (PLAIN, "term", ("ann", "lamps", "oak", "two")), (PLAIN, "text", ()),
                  (PLAIN, "Subject", ("lamps", "two")), (PLAIN, "From", ("ann", "oak")), (PLAIN, "To", ()))

    def test_the_terms_of_the_content(self):
        self.same(terms_of, (LINES, "text", ("b0", "one", "three", "two")), (CODED, "text", ("cabcab",)),
                  (PARTS, "text", ("b0", "cabcab", "one", "three", "two")), (lined("On", "e on"), "text", ("e", "on")),
                  (coded("One\nTWO"), "text", ("one", "two")), (parted(lined("a"), lined("b")), "text", ("a", "b")))

    def test_the_terms_of_headers(self):
        letter = ("letter", (("Subject", "Two x"), ("Text", "t1"), ("Subject", "lamps two"), ("Term", "t2")),
                  ("lines", ("t3",)))
        self.same(terms_of, (letter, "Subject", ("lamps", "two", "x")), (letter, "Text", ("t1",)),
                  (letter, "Term", ("t2",)), (letter, "text", ("t3",)), (letter, "Id", ()),
                  (letter, "term", ("lamps", "t1", "t2", "t3", "two", "x")), (letter, "Parts", ()), (letter, "parts", ()),
                  (PARTS, "parts", ()), (PARTS, "Parts", ()))
        self.same(terms_of, (headed(("A", "on"), ("A", "e")), "A", ("e", "on")))
        self.same(terms_of, (headed(("A", "on"), ("B", "e")), "term", ("e", "on")))

    def test_all_terms_of_a_letter(self):
        self.same(terms_of, (lined("x", "Y"), "term", ("b", "x", "y")), (lined(), "term", ("b",)),
                  (LINES, "term", ("b0", "one", "three", "two", "x", "y")))
        self.same(terms_of, (("letter", (("A", "on"),), ("lines", ("e",))), "term", ("e", "on")))

    def test_parts_at_any_depth(self):
        inner = ("letter", (("To", "deep1"), ("X", "")), ("lines", ("deep2",)))
        letter = ("letter", (("To", "top1"),), ("parts", (headed(("Cc", "mid1")), deep(3, inner), coded("In it"))))
        self.same(terms_of, (letter, "term", ("b", "deep1", "deep2", "in", "it", "mid1", "six", "top1")),
                  (letter, "text", ("deep2", "in", "it")), (letter, "To", ("top1",)), (letter, "Cc", ()))

    def test_lines_of_a_coding_count_by_what_they_decode_to(self):
        self.same(terms_of, (CODED, "term", ("bo", "cabcab", "elm", "six")), (CODED, "Coding", ("six",)),
                  (parted(CODED), "term", ("b", "bo", "cabcab", "elm", "six")), (parted(CODED), "text", ("cabcab",)))

    def test_names_of_headers_and_boundaries_are_no_terms(self):
        self.same(terms_of, (parted(headed(("Only", ""))), "term", ("b",)),
                  (headed(("X-Ray", "")), "term", ()))


class Paths(Case):
    def test_outline(self):
        self.same(outline, (PLAIN, (((), "lines", 0, 40),)),
                  (LINES, (((), "lines", 4, size_of(LINES)),)),
                  (PARTS, (((), "parts", 3, size_of(PARTS)), ((0,), "lines", 4, size_of(LINES)),
                           ((1,), "lines", 4, size_of(CODED)), ((2,), "lines", 0, 40))))
        self.same(outline, (DEEP, (
            ((), "parts", 2, size_of(DEEP)), ((0,), "lines", 0, 40), ((1,), "parts", 1, size_of(DEEP[2][1][1])),
            ((1, 0), "parts", 3, size_of(PARTS)), ((1, 0, 0), "lines", 4, size_of(LINES)),
            ((1, 0, 1), "lines", 4, size_of(CODED)), ((1, 0, 2), "lines", 0, 40))))

    def test_sizes_are_of_the_letter_by_itself(self):
        self.same(outline, (deep(2, lined("--b0")), (
            ((), "parts", 1, 67), ((0,), "parts", 1, 39), ((0, 0), "lines", 1, 11))))

    def test_part_of(self):
        self.same(part_of, (PLAIN, (), PLAIN), (PARTS, (), PARTS), (PARTS, (0,), LINES), (PARTS, (1,), CODED),
                  (PARTS, (2,), PLAIN), (DEEP, (0,), PLAIN), (DEEP, (1, 0), PARTS), (DEEP, (1, 0, 1), CODED),
                  (deep(4), (0, 0, 0, 0), PLAIN), (parted(*[PLAIN] * 7, LINES), (7,), LINES))

    def test_paths_that_are_not_there(self):
        for letter, path in ((PLAIN, (0,)), (PLAIN, (1,)), (LINES, (0,)), (LINES, (3,)), (CODED, (0,)), (PARTS, (3,)),
                             (PARTS, (100,)), (PARTS, (0, 0)), (PARTS, (2, 0)), (DEEP, (2,)), (DEEP, (1, 1)),
                             (DEEP, (0, 0)), (DEEP, (1, 0, 3)), (DEEP, (1, 0, 1, 0)), (deep(4), (0, 0, 0, 0, 0)),
                             (PLAIN, (0, 0))):
            with self.subTest(letter=letter, path=path):
                with self.assertRaises(BadText) as caught:
                    part_of(letter, path)
                self.assertEqual(caught.exception.reason, "no part")

    def test_outlines_and_parts_by_chance(self):
        chance = random.Random(8)
        for _ in range(60):
            letter = any_letter(chance)
            rows = outline(letter)
            self.assertEqual([row[0] for row in rows], sorted(row[0] for row in rows))
            for path, kind, many, size in rows:
                part = part_of(letter, path)
                self.assertEqual((kind, many, size), (part[2][0], len(part[2][1]), size_of(part)))
                under = [row for row in rows if row[0][:-1] == path and len(row[0]) == len(path) + 1]
                self.assertEqual(len(under), many if kind == "parts" else 0)


if __name__ == "__main__":
    unittest.main()
