"""Answers to letters: l11."""

import unittest

from oncemail.contents import answer_to, id_of, references_of, writer_of
from oncemail.errors import BadText
from oncemail.letters import is_letter, read_letter, write_letter
from tests.samples import PARTS, PLAIN, headed

BO = ("at", "bo", "elm")


def answered(*headers):
    """The headers of the answer to a letter with these headers and a writer."""
    return answer_to(headed(("From", "Ann <ann@oak>"), *headers), BO, "m9", ())[1]


class Answers(unittest.TestCase):
    def subject(self, *texts):
        headers = answered(*[("Subject", text) for text in texts])
        self.assertEqual(headers[3][0], "Subject")
        return headers[3][1]

    def re(self, references, *word):
        """The text of the header Re, or None."""
        headers = answered(*[("Re", text) for text in references], *[("Id", text) for text in word])
        self.assertEqual([name for name, _ in headers], ["From", "To", "Id", "Subject", "Re"][:len(headers)])
        return headers[4][1] if len(headers) == 5 else None

    def test_the_whole(self):
        self.assertEqual(
            answer_to(PLAIN, BO, "m1", ("Yes.", "", " Bo")),
            ("letter", (("From", "bo@elm"), ("To", "ann@oak"), ("Id", "m1"), ("Subject", "Re: two lamps")),
             ("lines", ("Yes.", "", " Bo"))))
        letter = headed(("Id", "m1"), ("Re", "a b"), ("Subject", "x"), ("From", "A <a1@oak>"), ("To", "bo@elm"))
        self.assertEqual(
            answer_to(letter, BO, "m2", ()),
            ("letter", (("From", "bo@elm"), ("To", "a1@oak"), ("Id", "m2"), ("Subject", "Re: x"), ("Re", "a b m1")),
             ("lines", ())))

    def test_a_letter_with_parts(self):
        self.assertEqual(answer_to(PARTS, BO, "m1", ("x",)),
                         ("letter", (("From", "bo@elm"), ("To", "ann@oak"), ("Id", "m1"), ("Subject", "Re:")),
                          ("lines", ("x",))))

    def test_subjects(self):
        self.assertEqual(self.subject(), "Re:")
        self.assertEqual(self.subject(""), "Re:")
        self.assertEqual(self.subject("x"), "Re: x")
        self.assertEqual(self.subject("x  y"), "Re: x  y")
        for text in ("Re:", "Re: x", "Re:x", "Re:  x", "Re: Re: x", "Re::"):
            self.assertEqual(self.subject(text), text)
        for text in ("re: x", "RE: x", "Re x", "Re", "R", "x Re:", "Reply"):
            self.assertEqual(self.subject(text), "Re: " + text)

    def test_only_the_first_subject_counts(self):
        self.assertEqual(self.subject("one", "two"), "Re: one")
        self.assertEqual(self.subject("", "two"), "Re:")
        self.assertEqual(self.subject("Re: one", "Re: two"), "Re: one")

    def test_long_subjects(self):
        for many in (486, 487):
            self.assertEqual(self.subject("x" * many), "Re: " + "x" * many)
        for many in (488, 489, 490, 491):
            self.assertEqual(self.subject("x" * many), "Re: " + "x" * 487)
        self.assertEqual(self.subject("Re:" + "x" * 487), "Re:" + "x" * 487)
        self.assertEqual(self.subject("Re:" + "x" * 488), "Re:" + "x" * 488)
        self.assertEqual(self.subject("x" * 486 + " y"), "Re: " + "x" * 486)
        self.assertEqual(self.subject("x" * 485 + "  y"), "Re: " + "x" * 485)
        self.assertEqual(self.subject("x" * 487 + " y"), "Re: " + "x" * 487)
        self.assertEqual(self.subject("x" * 485 + " yz"), "Re: " + "x" * 485 + " y")
        self.assertEqual(self.subject("x" + " " * 489 + "y"), "Re: x")

    def test_references(self):
        self.assertIsNone(self.re(()))
        self.assertIsNone(self.re(("",)))
        self.assertEqual(self.re((), "m1"), "m1")
        self.assertEqual(self.re(("a",)), "a")
        self.assertEqual(self.re(("a  b", "c")), "a b c")
        self.assertEqual(self.re(("a b", "", "c"), "m1"), "a b c m1")
        self.assertEqual(self.re(("a",), "m1 m2"), "a")
        self.assertIsNone(self.re((), "m1 m2"))
        self.assertIsNone(self.re((), ""))
        self.assertEqual(self.re(("a m1",), "m1"), "a m1 m1")
        self.assertEqual(self.re((), "m1", "m2"), "m1")

    def test_words_are_left_out_at_the_beginning(self):
        one, two, long = "a" * 247, "b" * 248, "c" * 496
        self.assertEqual(self.re((one,), two), one + " " + two)
        self.assertEqual(self.re((one + "x",), two), two)
        self.assertEqual(self.re((two,), two), two)
        self.assertEqual(self.re(("a",), long), long)
        self.assertEqual(self.re((), long), long)
        self.assertEqual(self.re((long, "a")), "a")
        self.assertEqual(self.re(("a", long)), long)
        self.assertEqual(self.re((long, "a b"), "c"), "a b c")
        self.assertEqual(self.re((two, "x " * 123 + "y")), two + " " + "x " * 123 + "y")
        self.assertEqual(self.re((two, "x " * 123 + "yy")), "x " * 123 + "yy")
        words = [f"w{n}" for n in range(1000)]
        rows = [" ".join(words[at:at + 90]) for at in range(0, 1000, 90)]
        self.assertEqual(self.re(rows, "m1"), " ".join(words[-98:]) + " m1")
        self.assertEqual(len(" ".join(words[-98:]) + " m1"), 492)

    def test_a_short_word_ahead_of_a_long_one_is_left_out_too(self):
        self.assertEqual(self.re(("a " + "b" * 490, "c d")), "a " + "b" * 490 + " c d")
        self.assertEqual(self.re(("a " + "b" * 490, "c d e")), "b" * 490 + " c d e")
        self.assertEqual(self.re(("a " + "b" * 490, "c d ef")), "c d ef")
        self.assertEqual(self.re(("a", "b" * 490), "c d"), "a " + "b" * 490)
        self.assertEqual(self.re(("a", "b" * 495), "c"), "c")

    def test_no_writer(self):
        for letter in (headed(("A", "b")), headed(("From", "x")), headed(("From", "")),
                       headed(("From", "x"), ("From", "ann@oak")), headed(("To", "ann@oak"))):
            with self.subTest(letter=letter):
                with self.assertRaises(BadText) as caught:
                    answer_to(letter, BO, "m1", ())
                self.assertEqual(caught.exception.reason, "no writer")

    def test_answers_are_letters(self):
        letter = headed(("From", "ann@oak"), ("Subject", "x " * 245 + "y"), ("Id", "i" * 496),
                        *[("Re", "r " * 247 + "r")] * 20)
        for word in ("m", "m" * 60):
            for lines in ((), ("",), ("y" * 150,) * 100):
                answer = answer_to(letter, BO, word, lines)
                self.assertIs(is_letter(answer), True)
                self.assertEqual(read_letter(write_letter(answer)), answer)
                self.assertEqual(writer_of(answer), BO)
                self.assertEqual(id_of(answer), word)
                self.assertEqual(references_of(answer), ("i" * 496,))
                self.assertEqual(answer[2], ("lines", lines))


if __name__ == "__main__":
    unittest.main()
