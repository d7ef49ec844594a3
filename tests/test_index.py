"""Indexes: q9, with q6, th4 and fi5."""

import random
import time
import unittest

from oncemail.errors import BadText
from oncemail.filters import read_filter, run_filter
from oncemail.index import Index, read_index
from oncemail.meaning import holds
from oncemail.queries import read_query
from oncemail.threads import names_of, row_of
from tests import index_oracles as oracles
from tests.samples import CODED, DEEP, LINES, any_letter, headed, lined, sized
from tests.test_queries import any_query

FIVE = ("kept", 5, 9, ("red",), 70, ("letter", (("From", "Ann <ann@oak>"), ("Subject", "two lamps")), ("lines", ("Lamp 7",))))
TWELVE = ("kept", 12, 10, (), 71, ("letter", (("From", "bo@elm"), ("Id", "m1"), ("Re", "k0 m0")), ("lines", ("a1 a",))))
THREE = ("kept", 3, 11, (), 72, headed(("Re", "k0")))
TEXT = """record 5 47 70
record 12 36 71
id 12 m1
re 12 k0 m0
flag red: 5
from ann@oak: 5
from bo@elm: 12
has From: 5 12
has Id: 12
has Re: 12
has Subject: 5
header From ann: 5
header From bo: 12
header From elm: 12
header From oak: 5
header Id m1: 12
header Re k0: 12
header Re m0: 12
subject lamps: 5
subject two: 5
term 7: 5
term a: 12
term a1: 12
term ann: 5
term bo: 12
term elm: 12
term k0: 12
term lamp: 5
term lamps: 5
term m0: 12
term m1: 12
term oak: 5
term two: 5
text 7: 5
text a: 12
text a1: 12
text lamp: 5
"""
QUERIES = [read_query(text) for text in (
    "all", "not all", "from ann@oak", "from ann@oak or has Id", "to bo@elm", "cc bo@elm and not text x", "has re", "flag red",
    "header From ann", "subject two", "text x or text two", "term oak", "size 1000", "not size 1000", "since 2", "since 71",
    "uid 5", "uid 2-5", "uid 6-", "thread m1", "thread k0", "thread m0 and not has Id", "not thread a1", "thread a and thread b",
    "thread b or flag blue")]
SIEVE = read_filter("when from ann@oak and not subject spam\n  file work red\n  stop\nwhen size 1000 or term x\n  drop\n"
                    "when since 2 and has Id\n  keep blue\n  forward bo@elm\nwhen text two\n  refuse\n"
                    "when header To x\n  file work blue\n  stop\n")


def indexed(records):
    index = Index()
    for record in records:
        index.put(record)
    return index


def strings_in(thing, seen=None):
    """All strings that an object holds, at any depth."""
    seen = {} if seen is None else seen
    if isinstance(thing, str):
        yield thing
    elif id(thing) not in seen:
        seen[id(thing)] = thing
        if isinstance(thing, dict):
            parts = list(thing) + list(thing.values())
        elif isinstance(thing, (list, tuple, set, frozenset)):
            parts = list(thing)
        else:
            parts = list(vars(thing).values()) if hasattr(thing, "__dict__") else []
        for part in parts:
            yield from strings_in(part, seen)


class Case(unittest.TestCase):
    def alike(self, index, records, queries=QUERIES):
        """All answers of an index are those of this set of records."""
        records = sorted(records, key=lambda record: record[1])
        uids = tuple(record[1] for record in records)
        self.assertEqual(index.uids(), uids)
        text = oracles.index_text(records)
        self.assertEqual(index.text(), text)
        terms = [line.split(":")[0].split(" ")[1] for line in text.split("\n") if line.startswith("term ")]
        self.assertEqual(index.terms(), tuple(terms))
        rows = [row_of(record[1], record[5]) for record in records]
        names = {uid: names_of(rows, uid) for uid in uids}
        for uid in uids:
            self.assertEqual(index.names(uid), names[uid])
        for term in terms[::7] + ["nowhere"]:
            wanted = tuple(record[1] for record in records if holds(("term", term), record, ()))
            self.assertEqual(index.rows(term), wanted)
        for query in queries:
            wanted = tuple(record[1] for record in records if holds(query, record, names[record[1]]))
            self.assertEqual(index.search(query), wanted, query)
        wanted = tuple((record[1], run_filter(SIEVE, record[5], record[4])) for record in records)
        self.assertEqual(index.outcomes(SIEVE), wanted)

    def refused(self, reason, call, *given):
        with self.assertRaises(BadText) as caught:
            call(*given)
        self.assertEqual(caught.exception.reason, reason)


class Example(Case):
    def test_its_text(self):
        self.assertEqual(indexed((FIVE, TWELVE)).text(), TEXT)
        self.assertEqual(indexed((TWELVE, FIVE)).text(), TEXT)

    def test_its_names_and_searches(self):
        index = indexed((FIVE, TWELVE))
        self.assertEqual((index.names(5), index.names(12)), ((), ("k0", "m0", "m1")))
        self.assertIsNone(index.put(THREE))
        self.assertEqual(index.names(3), ("k0", "m0", "m1"))
        self.assertEqual(index.search(read_query("thread m1")), (3, 12))
        self.alike(index, (THREE, FIVE, TWELVE))
        self.assertIsNone(index.take(12))
        self.assertEqual(index.names(3), ("k0",))
        self.assertEqual(index.search(read_query("thread m1")), ())
        self.alike(index, (THREE, FIVE))

    def test_its_other_answers(self):
        index = indexed((FIVE, TWELVE))
        self.assertEqual(index.uids(), (5, 12))
        self.assertEqual(index.rows("lamp"), (5,))
        self.assertEqual(index.rows("m1"), (12,))
        self.assertEqual(index.rows("spam"), ())
        self.assertEqual(index.terms(), ("7", "a", "a1", "ann", "bo", "elm", "k0", "lamp", "lamps", "m0", "m1", "oak", "two"))
        self.alike(index, (FIVE, TWELVE))


class Changes(Case):
    def test_no_records(self):
        index = Index()
        self.alike(index, ())
        self.assertEqual(index.text(), "")
        self.refused("none", index.take, 1)
        self.refused("none", index.names, 1)

    def test_put_of_a_uid_that_is_there(self):
        index = indexed((FIVE, TWELVE))
        again = ("kept", 5, 12, ("blue",), 3, headed(("Re", "m1"), ("To", "x")))
        index.put(again)
        self.alike(index, (again, TWELVE))
        self.assertNotIn("lamp", index.text())
        index.put(again)
        self.alike(index, (again, TWELVE))
        index.put(("kept", 5, 12, (), 3, again[5]))
        self.assertEqual(index.search(read_query("flag blue")), ())

    def test_take(self):
        index = indexed((FIVE, TWELVE, THREE))
        for uid in (1, 4, 13):
            self.refused("none", index.take, uid)
            self.refused("none", index.names, uid)
        self.alike(index, (THREE, FIVE, TWELVE))
        for uid, rest in ((5, (THREE, TWELVE)), (3, (TWELVE,)), (12, ())):
            index.take(uid)
            self.refused("none", index.take, uid)
            self.refused("none", index.names, uid)
            self.alike(index, rest)
        index.put(FIVE)
        self.alike(index, (FIVE,))

    def test_what_is_handed_out_is_plain(self):
        index = indexed((FIVE, TWELVE))
        for answer in (index.uids(), index.rows("lamp"), index.terms(), index.names(12), index.search(("all",)),
                       index.outcomes(SIEVE), index.outcomes(SIEVE)[0]):
            self.assertIs(type(answer), tuple)
        self.assertIs(type(index.text()), str)

    def test_by_chance(self):
        chance = random.Random(91)
        for _ in range(25):
            index, records = Index(), {}
            for _ in range(14):
                uid = chance.choice((1, 2, 3, 10, 20, 999999999))
                if chance.random() < 0.7:
                    flags = chance.choice(((), ("red",), ("blue", "red")))
                    record = ("kept", uid, 1, flags, chance.choice((0, 1, 2, 71)), any_letter(chance, 2))
                    index.put(record)
                    records[uid] = record
                elif uid in records:
                    index.take(uid)
                    del records[uid]
                else:
                    self.refused("none", index.take, uid)
                queries = [any_query(chance, 3, QUERIES) for _ in range(6)]
                self.alike(index, records.values(), queries)


class Records(Case):
    def test_letters_of_all_kinds(self):
        letters = (CODED, DEEP, LINES, sized(1000), sized(1001), sized(20000), headed(("Parts-Of", "x")), lined("x" * 31))
        records = [("kept", 10 - at, 1, (), at, letter) for at, letter in enumerate(letters)]
        self.alike(indexed(records), records)
        self.alike(indexed(records[::-1]), records)

    def test_terms_of_30_and_31_signs(self):
        just, more = "a" * 30, "b" * 31
        letter = ("letter", (("Subject", f"{just} {more}"),), ("lines", (f"{more} {just}c {just}",)))
        index = indexed([("kept", 1, 1, (), 0, letter)])
        self.assertEqual(index.terms(), (just,))
        self.assertEqual(index.text(), f"record 1 168 0\nhas Subject: 1\nsubject {just}: 1\n"
                                       f"term {just}: 1\ntext {just}: 1\n")
        self.assertEqual(index.rows(just), (1,))

    def test_addresses(self):
        letter = headed(("From", "x"), ("From", "ann@oak"), ("To", "a@b, Cy <c@d>,, e"), ("To", "a@b"), ("Cc", "f@g"))
        text = indexed([("kept", 1, 1, (), 0, letter)]).text()
        tests = [line[:-3] for line in text.split("\n") if "@" in line]
        self.assertEqual(tests, ["cc f@g", "to a@b", "to c@d"])

    def test_ids_and_references(self):
        for headers, lines in (((("Id", "m"),), ["id 1 m"]), ((("Id", "a b"),), []), ((("Id", ""), ("Id", "m")), []),
                               ((("Re", ""),), []), ((("Re", "a  b"), ("Re", "a")), ["re 1 a b a"]),
                               ((("Re", "x!"), ("Id", "(Y)")), ["id 1 (Y)", "re 1 x!"])):
            text = indexed([("kept", 1, 1, (), 0, headed(*headers))]).text()
            told = [line for line in text.split("\n") if line.startswith(("id ", "re "))]
            self.assertEqual(told, lines)

    def test_threads_through_lost_names_and_rings(self):
        rows = ((1, "a", "b"), (2, "b", "a"), (3, "", "q b"), (4, "c", "q"), (5, "", ""), (6, "d", ""), (7, "", "z y"))
        records = []
        for uid, word, references in rows:
            headers = [("Id", word)] * (word != "") + [("Re", references)] * (references != "") + [("X", "x")]
            records.append(("kept", uid, 1, (), 0, headed(*headers)))
        index = Index()
        for count, record in enumerate(records):
            index.put(record)
            self.alike(index, records[:count + 1], [("thread", word) for word in "abcdqxyz"])
        for count, record in enumerate(records):
            index.take(record[1])
            self.alike(index, records[count + 1:], [("thread", word) for word in "abcdqxyz"])

    def test_all_ways_to_ask_one_thing(self):
        index = indexed((FIVE, TWELVE, THREE))
        for text in ("subject LAMPS", "header subject lamps"):
            self.assertEqual(index.search(read_query(text)), (5,))
        self.assertEqual(index.search(read_query("uid 3 or uid 12-")), (3, 12))
        self.assertEqual(index.search(read_query("text " + "a" * 30)), ())


class Kept(Case):
    def test_none_of_the_words_that_the_text_does_not_have(self):
        long = "secret" * 6
        letter = ("letter", (("From", "Dora.Quill <ann@oak>"), ("X-Odd", f"w!!x {long}")), ("lines", (f"{long} Plain;words",)))
        index = indexed((FIVE, TWELVE, THREE))
        index.put(("kept", 7, 1, ("green",), 3, letter))
        for held in (index, read_index(index.text())):
            self.assert_kept(held)
            self.assertNotIn(long, "".join(strings_in(held)))
            held.take(7)
            self.assert_kept(held)
            held.put(("kept", 5, 9, (), 70, headed(("A", ""))))
            self.assert_kept(held)
            told = " ".join(strings_in(held))
            for word in ("dora", "quill", "plain", "lamp", "green", "red", "ann", "odd", "Odd"):
                self.assertNotIn(word, told)

    def assert_kept(self, index):
        text = index.text()
        for word in strings_in(index):
            self.assertIn(word, text)

    def test_a_letter_that_is_handed_in_is_not_changed(self):
        told = repr((FIVE, TWELVE))
        index = indexed((FIVE, TWELVE))
        index.take(5)
        self.assertEqual(repr((FIVE, TWELVE)), told)


class Read(Case):
    def test_it_answers_alike_and_has_the_same_text(self):
        index = read_index(TEXT)
        self.assertIsInstance(index, Index)
        self.alike(index, (FIVE, TWELVE))
        self.alike(read_index(""), ())
        for record in (FIVE, TWELVE, THREE):
            self.alike(read_index(indexed([record]).text()), [record])

    def test_behind_further_calls(self):
        index = read_index(TEXT)
        index.put(THREE)
        self.alike(index, (THREE, FIVE, TWELVE))
        index.take(12)
        self.alike(index, (THREE, FIVE))
        index.put(("kept", 5, 9, (), 70, THREE[5]))
        self.alike(read_index(index.text()), (THREE, ("kept", 5, 9, (), 70, THREE[5])))
        self.refused("none", index.take, 12)

    def test_by_chance(self):
        chance = random.Random(92)
        for _ in range(20):
            records = {uid: ("kept", uid, 1, chance.choice(((), ("red",))), chance.choice((0, 71)), any_letter(chance, 3))
                       for uid in chance.sample(range(1, 30), 5)}
            index = read_index(indexed(records.values()).text())
            self.alike(index, records.values())
            first, *_ = records
            index.take(first)
            del records[first]
            records[50] = ("kept", 50, 1, (), 1, any_letter(chance, 2))
            index.put(records[50])
            self.alike(index, records.values())

    def test_records_with_one_text_have_indexes_that_answer_alike(self):
        one = ("kept", 4, 1, (), 0, ("letter", (("A", "x y"),), ("lines", ("b;c",))))
        other = ("kept", 4, 77, (), 0, ("letter", (("A", "y.x"),), ("lines", ("c b",))))
        first, second = indexed([one]), indexed([other])
        self.assertEqual(first.text(), second.text())
        for index in (first, second):
            index.put(TWELVE)
        self.assertEqual(first.text(), second.text())
        for query in QUERIES:
            self.assertEqual(first.search(query), second.search(query))


def small(uid):
    """A record in a chain of answers."""
    return ("kept", uid, 1, ("red",) if uid % 3 == 0 else (), uid % 50,
            ("letter", (("From", f"u{uid % 7}@oak"), ("Id", f"m{uid}"), ("Re", f"m{uid - 1}")), ("lines", (f"word{uid} x",))))


class Many(Case):
    def test_1000_records_and_one_more(self):
        begin = time.perf_counter()
        index = indexed(small(uid) for uid in range(1, 1001))
        text = index.text()
        self.refused("many", index.put, small(1001))
        self.assertEqual(index.text(), text)
        self.assertEqual(index.uids(), tuple(range(1, 1001)))
        index.put(("kept", 500, 1, (), 3, headed(("A", "b"))))
        self.assertEqual(len(index.uids()), 1000)
        self.assertEqual(index.search(read_query("header A b")), (500,))
        self.assertEqual(index.search(read_query("thread m1")), tuple(range(1, 500)))
        self.assertEqual(index.search(read_query("thread m499 and not flag red and uid 498-")), (499,))
        index.take(500)
        index.put(small(1001))
        self.refused("many", index.put, small(1002))
        self.assertLess(time.perf_counter() - begin, 20)

    def test_1000_records_answer_as_holds(self):
        begin = time.perf_counter()
        records = [small(uid) for uid in range(1, 1001)]
        index = indexed(records)
        names = tuple(sorted(f"m{uid}" for uid in range(0, 1001)))
        for text in ("from u3@oak and not flag red", "text word77 or since 49", "thread m5 and uid 990-", "size 1000"):
            query = read_query(text)
            self.assertEqual(index.search(query), tuple(record[1] for record in records if holds(query, record, names)))
        self.assertEqual(index.names(1000), names)
        self.assertEqual(read_index(index.text()).text(), index.text())
        self.assertEqual(index.rows("x"), tuple(range(1, 1001)))
        self.assertLess(time.perf_counter() - begin, 20)

    def test_searches_behind_each_of_many_calls(self):
        begin = time.perf_counter()
        index = Index()
        query = read_query("thread m1 and not text word5")
        for uid in range(1, 1001):
            index.put(small(uid))
            self.assertEqual(len(index.search(query)), uid - (uid >= 5))
        for uid in range(1, 1001):
            index.take(uid)
            self.assertEqual(len(index.search(("all",))), 1000 - uid)
        self.assertEqual(index.text(), "")
        self.assertLess(time.perf_counter() - begin, 20)

    def test_a_million_signs(self):
        begin = time.perf_counter()
        lines = tuple(" ".join(f"w{(line * 60 + at):x}" for at in range(80))[:496] for line in range(39))
        letter = ("letter", (("A", ""),), ("lines", lines))
        index = indexed(("kept", uid, 1, (), 0, letter) for uid in range(1, 51))
        self.assertEqual(index.rows("w100"), tuple(range(1, 51)))
        self.assertEqual(read_index(index.text()).terms(), index.terms())
        self.assertLess(time.perf_counter() - begin, 20)


class Outcomes(Case):
    def test_against_run_filter(self):
        records = (THREE, FIVE, TWELVE, ("kept", 20, 1, (), 9, sized(1001)), ("kept", 21, 1, ("red",), 1, lined("two x")))
        index = indexed(records)
        for text in ("", "when all\n  refuse\n", "when all\n  drop\n", "when not has Id\n  keep\n  forward a@b\n",
                     "when size 1000\n  drop\nwhen since 70 and text lamp\n  file a x y\n  stop\nwhen all\n  file b\n"):
            sieve = read_filter(text)
            wanted = tuple((record[1], run_filter(sieve, record[5], record[4])) for record in records)
            self.assertEqual(index.outcomes(sieve), wanted)
            slow = tuple((record[1], oracles.outcome_of_letter(sieve, record[5], record[4])) for record in records)
            self.assertEqual(wanted, slow)
        self.assertEqual(Index().outcomes(SIEVE), ())


if __name__ == "__main__":
    unittest.main()
