"""The meaning of queries: q6."""

import random
import unittest

from oncemail.codings import write_coding
from oncemail.meaning import holds
from oncemail.queries import read_query
from tests import query_oracles as oracles
from tests.samples import NAMES, any_letter, headed, lined, parted, sized
from tests.test_queries import any_query

INNER = ("letter", (("From", "cy@ash"), ("X-Ray", "inner")), ("lines", ("deep down",)))
LETTER = (
    "letter",
    (("From", "Ann Lee <ann@oak>"), ("From", "bo@elm"), ("To", "bo@elm, Cy <cy@ash>, nobody"), ("To", "dan@fir"),
     ("Cc", ""), ("Subject", "Two LAMPS"), ("Subject", "two more"), ("Text", "header called text"), ("X-Ray", "outer")),
    ("parts", (INNER, lined("Lamp 7", "", "a-b"))),
)


def kept(letter, uid=5, flags=("blue", "red"), turn=70, change=9):
    return ("kept", uid, change, flags, turn, letter)


class Case(unittest.TestCase):
    def tells(self, text, wanted, record=kept(LETTER), names=()):
        with self.subTest(text=text):
            told = holds(read_query(text), record, names)
            self.assertIs(type(told), bool)
            self.assertEqual(told, wanted)
            self.assertEqual(holds(("not", read_query(text)), record, names), not wanted)
            self.assertEqual(oracles.holds(read_query(text), record, names), wanted)

    def both(self, yes, no, record=kept(LETTER), names=()):
        for text in yes:
            self.tells(text, True, record, names)
        for text in no:
            self.tells(text, False, record, names)


class Tests(Case):
    def test_all(self):
        self.both(["all"], ["not all"])

    def test_from(self):
        self.both(["from ann@oak"], ["from bo@elm", "from cy@ash", "from ann@elm", "from an@oak"])
        self.both([], ["from ann@oak"], kept(headed(("To", "ann@oak"))))
        self.both([], ["from ann@oak"], kept(headed(("From", "no address"), ("From", "ann@oak"))))
        self.both([], ["from ann@oak"], kept(headed(("From", "ann@oak, bo@elm"))))
        self.both([], ["from ann@oak"], kept(parted(headed(("From", "ann@oak")))))

    def test_to_and_cc(self):
        self.both(["to bo@elm", "to cy@ash", "to dan@fir"], ["to ann@oak", "to nobody@elm", "cc bo@elm", "cc ann@oak"])
        letter = headed(("Cc", "x, Bo <bo@elm>"), ("To", "bo"), ("Cc", "ann@oak"))
        self.both(["cc bo@elm", "cc ann@oak"], ["to bo@elm", "cc x@elm"], kept(letter))

    def test_has(self):
        self.both(["has From", "has cc", "has X-RAY", "has Text"], ["has Id", "has X-Ra", "has Coding"])
        self.both([], ["has Deep"], kept(parted(headed(("Deep", "x")))))

    def test_header_and_subject(self):
        self.both(["subject two", "subject lamps", "subject more", "header Subject TWO", "header From lee",
                   "header From elm", "header Text called", "header X-Ray outer", "header to nobody"],
                  ["subject lamp", "subject called", "header X-Ray inner", "header From cy", "header Cc a",
                   "header Id two", "header To ann"])

    def test_text(self):
        self.both(["text lamp", "text 7", "text a", "text b", "text deep", "text Down"],
                  ["text lamps", "text ann", "text inner", "text ab", "text called", "text x"])

    def test_term(self):
        self.both(["term lamp", "term deep", "term lamps", "term ann", "term lee", "term inner", "term outer", "term ash",
                   "term called", "term more"],
                  ["term subject", "term x", "term ray", "term lam", "term from"])

    def test_codings(self):
        letter = ("letter", (("Coding", "six"), ("A", "b")), ("lines", write_coding("Secret lamp\n9")))
        self.both(["text secret", "text lamp", "text 9", "term six", "term b", "header Coding six"],
                  ["text six", "text 1n", "text h"], kept(letter))
        plain = ("letter", (("Coding", "seven"), ("Coding", "six")), ("lines", ("2l9A",)))
        self.both(["text 2l9a"], ["text cab"], kept(plain))
        self.both(["text cab"], ["text 2l9a"], kept(parted(("letter", (("Coding", "six"),), ("lines", ("2l9A",))))))

    def test_the_edges_of_size(self):
        for size in (1000, 1001, 5000, 19999, 20000):
            record = kept(sized(size))
            self.both([f"size {n}" for n in (1000, 1001, 4999, 5000, 19999) if n < size],
                      [f"size {n}" for n in (1000, 1001, 4999, 5000, 19999) if n >= size], record)
        self.both([], ["size 1000"], kept(sized(4)))

    def test_the_edges_of_since(self):
        self.both(["since 1", "since 69", "since 70"], ["since 71", "since 10000"])
        self.both([], ["since 1"], kept(LETTER, turn=0))
        self.both(["since 10000"], [], kept(LETTER, turn=10000))

    def test_the_edges_of_uid(self):
        self.both(["uid 5", "uid 4-5", "uid 5-6", "uid 5-", "uid 1-", "uid 1-999999999"],
                  ["uid 4", "uid 6", "uid 1-4", "uid 6-9", "uid 6-"])
        self.both(["uid 999999999", "uid 1-", "uid 999999999-"], ["uid 1-999999998"], kept(LETTER, uid=999999999))
        self.both(["uid 1", "uid 1-"], ["uid 2-"], kept(LETTER, uid=1))

    def test_flag(self):
        self.both(["flag red", "flag blue"], ["flag re", "flag reds", "flag green"])
        self.both([], ["flag red"], kept(LETTER, flags=()))

    def test_thread_by_names_of_any_tuple(self):
        letter = headed(("Id", "m1"), ("Re", "m0"))
        self.both(["thread x", "thread Y!"], ["thread m1", "thread m0", "thread y!"], kept(letter), ("x", "Y!"))
        self.both([], ["thread m1", "thread x"], kept(letter))
        self.both(["thread b", "thread a"], ["thread c"], kept(letter), ("b", "a", "b"))


class Queries(Case):
    def test_not_and_or(self):
        self.both(["not flag green", "flag red and flag blue", "flag green or flag red", "not not flag red",
                   "not ( flag red and flag green )", "flag red and flag blue and all", "flag a or flag b or flag red"],
                  ["not flag red", "flag red and flag green", "flag green or flag a", "not ( flag red or flag green )",
                   "flag red and flag blue and flag a", "not not flag a", "flag red and not flag red"])

    def test_by_chance(self):
        chance = random.Random(6)
        words = ("x", "two", "lamps", "a1", "b0", "b1", "six", "m1", "7z", "a" * 30, "oak", "ann")
        tests = [(kind, word) for kind in ("text", "term") for word in words]
        tests += [("header", name, word) for name in NAMES for word in words]
        tests += [("has", name) for name in NAMES] + [("size", 1000), ("size", 2000), ("flag", "red"), ("thread", "m1")]
        tests += [(kind, ("at", *pair)) for kind in ("from", "to", "cc") for pair in (("ann", "oak"), ("bo", "elm"))]
        found = {True: 0, False: 0}
        for _ in range(300):
            record = kept(any_letter(chance), flags=chance.choice(((), ("red",))))
            names = chance.choice(((), ("m1",), ("m0", "m1")))
            for _ in range(8):
                query = any_query(chance, 3, tests)
                self.assertEqual(holds(query, record, names), oracles.holds(query, record, names))
                found[holds(query, record, names)] += 1
        self.assertGreater(min(found.values()), 300)

    def test_what_is_handed_in_stays(self):
        record = kept(LETTER)
        told = repr(record)
        holds(read_query("text a or term b and thread c"), record, ("c",))
        self.assertEqual(repr(record), told)


if __name__ == "__main__":
    unittest.main()
