"""Reading queries and the errors of it: q4, q5."""

import random
import unittest

from oncemail.errors import BadQuery, MailError
from oncemail.queries import is_query, read_query, write_query
from tests import query_oracles as oracles
from tests.test_queries import ALL, ANN, TESTS, any_query

A, B, C, D = (("text", letter) for letter in "abcd")


class Case(unittest.TestCase):
    def reads(self, text, query):
        with self.subTest(text=text):
            self.assertEqual(read_query(text), query)
            self.assertIs(is_query(query), True)
            self.assertEqual(read_query(write_query(query)), query)

    def refused(self, text, place, reason):
        with self.subTest(text=text):
            with self.assertRaises(BadQuery) as caught:
                read_query(text)
            self.assertEqual((caught.exception.place, caught.exception.reason), (place, reason))
            self.assertIsInstance(caught.exception, MailError)


class Reading(Case):
    def test_the_examples(self):
        self.reads("text a or text b and text c and not text d", ("or", (A, ("and", (B, C, ("not", D))))))
        self.reads("( text a and text b ) and text c", ("and", (("and", (A, B)), C)))
        self.reads("text and", ("text", "and"))

    def test_each_test(self):
        for text, query in TESTS.items():
            self.reads(text, query)
            self.reads(f"not {text} and ( {text} )", ("and", (("not", query), query)))

    def test_joined_side_by_side(self):
        self.reads("text a and text b and text c", ("and", (A, B, C)))
        self.reads("text a or text b or text c", ("or", (A, B, C)))
        self.reads("text a and text b or text c and text d", ("or", (("and", (A, B)), ("and", (C, D)))))
        self.reads("text a or text b and text c or text d", ("or", (A, ("and", (B, C)), D)))

    def test_brackets(self):
        self.reads("( text a or text b ) and text c", ("and", (("or", (A, B)), C)))
        self.reads("text a and ( text b and text c )", ("and", (A, ("and", (B, C)))))
        self.reads("text a or ( text b or text c )", ("or", (A, ("or", (B, C)))))
        self.reads("( text a or text b ) or text c", ("or", (("or", (A, B)), C)))
        self.reads("( text a and text b ) or text c", ("or", (("and", (A, B)), C)))
        self.reads("( ( text a or text b ) and text c ) and text d", ("and", (("and", (("or", (A, B)), C)), D)))

    def test_brackets_that_are_not_needed(self):
        self.reads("( all )", ALL)
        self.reads("( ( ( all ) ) )", ALL)
        self.reads("( text a ) and ( text b )", ("and", (A, B)))
        self.reads("( text a and text b )", ("and", (A, B)))
        self.reads("( ( text a and text b ) )", ("and", (A, B)))
        self.reads("not ( text a )", ("not", A))
        self.reads("not ( not ( text a ) )", ("not", ("not", A)))

    def test_not(self):
        self.reads("not text a and text b", ("and", (("not", A), B)))
        self.reads("not not text a or text b", ("or", (("not", ("not", A)), B)))
        self.reads("not ( text a and text b ) or not text c", ("or", (("not", ("and", (A, B))), ("not", C))))
        self.reads("text a and not ( text b or not text c )", ("and", (A, ("not", ("or", (B, ("not", C)))))))
        self.reads("not not ( text a or text b )", ("not", ("not", ("or", (A, B)))))

    def test_blanks(self):
        self.reads("  text   a  and    not  (  text  b )  ", ("and", (A, ("not", B))))
        self.reads("all ", ALL)
        self.reads(" all", ALL)

    def test_keywords_as_arguments(self):
        for word in ("and", "or", "not", "all", "text", "from"):
            self.reads(f"text {word}", ("text", word))
            self.reads(f"flag {word}", ("flag", word))
            self.reads(f"header {word} {word} and text {word}",
                       ("and", (("header", word.title(), word), ("text", word))))
        for word in ("(", ")", "and", "not", "x)", ":"):
            self.reads(f"thread {word} or thread {word}", ("or", (("thread", word), ("thread", word))))
        self.reads("not term not", ("not", ("term", "not")))

    def test_names_in_any_case(self):
        for word in ("X-RAY", "x-ray", "X-Ray", "x-rAY"):
            self.reads(f"has {word}", ("has", "X-Ray"))
            self.reads(f"header {word} t", ("header", "X-Ray", "t"))
        self.reads("header SUBJECT t", ("header", "Subject", "t"))
        self.assertEqual(write_query(read_query("header subject T")), "subject t")

    def test_terms_with_great_letters(self):
        self.reads("text LampS", ("text", "lamps"))
        self.reads("term A1", ("term", "a1"))
        self.reads("subject Re", ("header", "Subject", "re"))
        self.reads("header to BO", ("header", "To", "bo"))

    def test_words_of_threads_keep_their_letters(self):
        self.reads("thread Ann", ("thread", "Ann"))
        self.reads("thread " + "x" * 400, ("thread", "x" * 400))

    def test_each_way_to_write_uids(self):
        self.reads("uid 5", ("uid", 5, 5))
        self.reads("uid 5-5", ("uid", 5, 5))
        self.reads("uid 5-9", ("uid", 5, 9))
        self.reads("uid 5-", ("uid", 5, 999999999))
        self.reads("uid 5-999999999", ("uid", 5, 999999999))
        self.reads("uid 999999999-", ("uid", 999999999, 999999999))
        self.assertEqual(write_query(read_query("uid 5-5")), "uid 5")
        self.assertEqual(write_query(read_query("uid 5-999999999")), "uid 5-")
        self.assertEqual(write_query(read_query("uid 999999999-")), "uid 999999999")

    def test_addresses(self):
        self.reads("from ann@oak", ("from", ANN))
        self.reads("to a1@b and cc " + "a" * 12 + "@" + "b" * 12,
                   ("and", (("to", ("at", "a1", "b")), ("cc", ("at", "a" * 12, "b" * 12)))))


# Words that are no right argument, for each word of a test.
BAD = {
    "from": ["ann", "@oak", "ann@", "Ann@oak", "ann@oak1", "<ann@oak>", "x<ann@oak>", "ann@oak@elm", "1a@oak", "and",
             "a" * 13 + "@oak", "ann@" + "o" * 13, "ann@oak,"],
    "to": ["ann", "(", "<ann@oak>"],
    "cc": ["not", "ann@o-k"],
    "has": ["Parts", "parts", "PARTS", "A1", "A-", "-A", "A--B", "A:", "-", "a" * 21, "1"],
    "subject": ["a-b", "-", "a" * 31, "a.", "(", "a_b"],
    "text": ["a" * 31, "a@b", ")", "!"],
    "term": ["a" * 31, "a/b", "'"],
    "size": ["999", "20000", "01000", "1000a", "a", "-1000", "+1000", "0", "1000000000", "0001000", "1e3"],
    "since": ["0", "10001", "01", "1-", "x", "100000000000"],
    "uid": ["0", "01", "-", "-5", "5-4", "5-05", "05-6", "5--", "5-6-", "5-6-7", "1000000000", "5-1000000000", "a", "5-a",
            "0-5", "5-0", "--"],
    "flag": ["Red", "red1", "a" * 13, "re-d", "("],
    "thread": ["x" * 401],
}


class Arguments(Case):
    def test_words_that_are_no_right_arguments(self):
        for kind, words in BAD.items():
            for word in words:
                self.refused(f"{kind} {word}", 2, "bad argument")
                self.refused(f"all or not {kind} {word} and all", 5, "bad argument")

    def test_the_edges_of_arguments(self):
        for text in ("size 1000", "size 19999", "since 1", "since 10000", "uid 1", "uid 999999999", "uid 1-1",
                     "text " + "a" * 30, "flag " + "a" * 12, "has A" + "a" * 19, "thread " + "x" * 400):
            self.assertIs(is_query(read_query(text)), True)

    def test_missing_at_the_end(self):
        for kind in BAD:
            self.refused(kind, 2, "bad argument")
            self.refused(f" all  and {kind} ", 4, "bad argument")
        self.refused("header", 2, "bad argument")
        self.refused("header To", 3, "bad argument")
        self.refused("all or ( header To", 6, "bad argument")

    def test_of_header(self):
        self.refused("header Parts a", 2, "bad argument")
        self.refused("header a1 a", 2, "bad argument")
        self.refused("header To a-b", 3, "bad argument")
        self.refused("header a1 a-b", 2, "bad argument")


class Faults(Case):
    def test_no_test(self):
        for text in ("", "   "):
            self.refused(text, 1, "no test")
        for word in ("a", "and", "or", ")", "All", "NOT", "subject:", "(all", "uid5"):
            self.refused(word, 1, "no test")
            self.refused(f"{word} all", 1, "no test")
            self.refused(f"all and {word} all", 3, "no test")
            self.refused(f"not ( {word}", 3, "no test")
        self.refused("not", 2, "no test")
        self.refused("(", 2, "no test")
        self.refused("( )", 2, "no test")
        self.refused("all and", 3, "no test")
        self.refused("all or", 3, "no test")
        self.refused("all or not", 4, "no test")
        self.refused("all and or all", 3, "no test")
        self.refused("( all and )", 4, "no test")

    def test_no_join(self):
        self.refused("all all", 2, "no join")
        self.refused("all not all", 2, "no join")
        self.refused("all )", 2, "no join")
        self.refused("( all ) )", 4, "no join")
        self.refused("all (", 2, "no join")
        self.refused("text a b", 3, "no join")
        self.refused("all AND all", 2, "no join")
        self.refused("( all", 3, "no join")
        self.refused("( ( all )", 5, "no join")
        self.refused("not ( text a or text b", 8, "no join")
        self.refused("( all ) ( all )", 4, "no join")

    def test_too_deep(self):
        self.reads("not " * 12 + "all", oracles.read("not " * 12 + "all"))
        self.refused("not " * 13 + "all", 13, "too deep")
        self.reads("( " * 12 + "all" + " )" * 12, ALL)
        self.refused("( " * 13 + "all" + " )" * 13, 13, "too deep")
        self.refused("not ( " * 6 + "not all" + " )" * 6, 13, "too deep")
        self.reads("not ( " * 6 + "all" + " )" * 6, oracles.read("not " * 6 + "all"))
        self.refused("all and " + "( not " * 6 + "( all", 15, "too deep")

    def test_the_nest_ends_with_its_query(self):
        many = " and ".join(["not all"] * 20)
        self.reads(many, ("and", (("not", ALL),) * 20))
        self.reads(" or ".join(["( not ( all ) )"] * 20), ("or", (("not", ALL),) * 20))
        self.reads("( " * 11 + "not all and not all" + " )" * 11, ("and", (("not", ALL),) * 2))
        self.refused("( " * 11 + "not all and not not all" + " )" * 11, 16, "too deep")
        self.reads("not " * 11 + "( all ) and " + "not " * 12 + "all",
                   oracles.read("not " * 11 + "all and " + "not " * 12 + "all"))
        self.refused("not " * 11 + "( not all", 13, "too deep")
        self.refused("not ( not all and " + "not " * 11 + "all", 16, "too deep")

    def test_many_tests(self):
        hundred = " and ".join(["all"] * 100)
        self.reads(hundred, ("and", (ALL,) * 100))
        self.refused(f"{hundred} or all", 201, "many tests")
        self.refused(f"{hundred} or text", 201, "many tests")
        self.refused(f"{hundred} or not ( size 5", 203, "many tests")
        self.refused(f"{hundred} or xyz", 201, "no test")
        self.refused(f"{hundred} or", 201, "no test")

    def test_too_long(self):
        begin = "thread " + "x" * 400 + " or thread " + "x" * 400 + " or thread " + "x" * 400 + " or thread " + "x" * 400
        text = begin + " or thread " + "y" * (2000 - len(begin) - 11)
        self.assertEqual(len(text), 2000)
        self.assertEqual(write_query(read_query(text)), text)
        self.refused(text + "y", 0, "too long")
        self.reads("all" + " " * 1997, ALL)
        self.refused("all" + " " * 1998, 0, "too long")
        self.refused("x" * 2001, 0, "too long")
        self.refused("x" * 2000, 1, "no test")

    def test_the_first_of_two_faults_is_told(self):
        self.refused("text a-b all all", 2, "bad argument")
        self.refused("all all text a-b", 2, "no join")
        self.refused("( text and b", 4, "no join")
        self.refused("foo " + "not " * 13, 1, "no test")
        self.refused("not " * 13 + "foo", 13, "too deep")
        self.refused("( all or size", 5, "bad argument")
        self.refused("( all or size )", 5, "bad argument")
        self.refused("all ) foo", 2, "no join")

    def test_by_chance_as_the_slow_words(self):
        chance = random.Random(45)
        words = ["not", "(", ")", "and", "or", "all", "text", "a", "header", "To", "uid", "5-", "and", "or", "all", "size",
                 "1000", "x-1"]
        told = {}
        for _ in range(6000):
            text = " ".join(chance.choice(words) for _ in range(chance.randrange(0, 12)))
            told[self.compare(text)] = True
        for _ in range(1500):
            query = write_query(any_query(chance, 14)).split(" ")
            for _ in range(chance.choice((0, 1, 1, 2))):
                at = chance.randrange(len(query) + 1)
                query[at:at + chance.choice((0, 1, 1, 2))] = chance.sample(words, chance.choice((0, 1, 1)))
            told[self.compare(" ".join(query))] = True
        for reason in ("", "no test", "no join", "bad argument", "too deep"):
            self.assertIn(reason, told)

    def compare(self, text):
        """The reason that a text is refused with, empty if it is read."""
        try:
            wanted = oracles.read(text)
        except oracles.Fault as fault:
            self.refused(text, *fault.told)
            return fault.told[1]
        self.reads(text, wanted)
        return ""


if __name__ == "__main__":
    unittest.main()
