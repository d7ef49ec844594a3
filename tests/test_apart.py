"""Samples that tell queries apart: q7, q8."""

import random
import unittest

from oncemail.errors import BadQuery
from oncemail.index import Index
from oncemail.letters import is_letter, size_of
from oncemail.meaning import holds
from oncemail.queries import is_query, read_query
from oncemail.samples import apart
from oncemail.threads import names_of, row_of
from tests import query_oracles as oracles
from tests.oracles import right_letter, thread_names
from tests.samples import any_letter
from tests.test_queries import any_query


def records_that_hold(query, records):
    """The uids of the records for which a query holds, with the names that threads give."""
    rows = [row_of(record[1], record[5]) for record in records]
    return [record[1] for record in records if holds(query, record, names_of(rows, record[1]))]


class Case(unittest.TestCase):
    def sampled(self, one, other):
        """The sample of two queries that are apart, which is right and tells them apart."""
        sample = apart(one, other)
        self.assertIsNotNone(sample, (one, other))
        self.assertTrue(oracles.is_sample(sample), sample)
        for record in sample:
            self.assertTrue(is_letter(record[5]), record)
            self.assertTrue(right_letter(record[5]), record)
        self.assertNotEqual(records_that_hold(one, sample), records_that_hold(other, sample), (one, other, sample))
        index = Index()
        for record in sample:
            index.put(record)
        self.assertNotEqual(index.search(one), index.search(other))
        rows = [row_of(record[1], record[5]) for record in sample]
        told = [[oracles.holds(query, record, thread_names(rows, record[1])) for record in sample]
                for query in (one, other)]
        self.assertNotEqual(told[0], told[1])
        return sample

    def are_apart(self, *pairs):
        for one, other in pairs:
            with self.subTest(one=one, other=other):
                one, other = read_query(one), read_query(other)
                sample = self.sampled(one, other)
                self.assertEqual(apart(one, other), sample)
                self.sampled(other, one)
                self.sampled(("not", one), ("not", other))
                self.assertTrue(oracles.are_apart(one, other))

    def are_alike(self, *pairs):
        for one, other in pairs:
            with self.subTest(one=one, other=other):
                one, other = read_query(one), read_query(other)
                self.assertIsNone(apart(one, other))
                self.assertIsNone(apart(other, one))
                self.assertIsNone(apart(("not", other), ("not", one)))
                self.assertFalse(oracles.are_apart(one, other))


class Plain(Case):
    def test_the_examples(self):
        self.are_alike(("from ann@oak", "from ann@oak and header From oak"),
                       ("thread a and not has Id and not has Re", "not all"))
        self.are_apart(("flag a or flag b", "flag a"))

    def test_a_query_and_itself(self):
        for text in ("all", "text a", "thread a", "not ( size 5000 or uid 3-9 )", "from a@b and not cc a@b"):
            self.are_alike((text, text))

    def test_queries_that_mean_the_same(self):
        self.are_alike(("text a and text b", "text b and text a"), ("not ( text a or text b )", "not text a and not text b"),
                       ("text a or all", "all"), ("text a and not text a", "not all"), ("not not text a", "text a"),
                       ("text a and ( text b or text c )", "text a and text b or text a and text c"),
                       ("all", "flag a or not flag a"), ("text a or text a and text b", "text a"))

    def test_each_test_against_all_and_nothing(self):
        for text in ("from ann@oak", "to ann@oak", "cc b1@elm", "has X-Ray", "has Id", "has Re", "has From", "has Coding",
                     "header To x", "subject a", "header Id a1", "header Re a1", "header Coding six", "text a", "term 0",
                     "size 1000", "size 19999", "since 1", "since 10000", "uid 1", "uid 999999999", "uid 2-999999998",
                     "flag red", "thread a", "thread !", "thread -", "thread " + "x" * 400, "thread " + "!" * 400):
            self.are_apart((text, "not all"), (text, "all"), (f"not {text}", text))
        self.are_alike(("uid 1-", "all"))
        self.are_apart(("all", "not all"))

    def test_unlike_tests_of_one_kind(self):
        self.are_apart(("from ann@oak", "from bo@oak"), ("to ann@oak", "cc ann@oak"), ("text a", "term a"),
                       ("header To a", "header Cc a"), ("header To a", "header To b"), ("thread a", "thread b"),
                       ("thread a", "header Re a"), ("thread a", "header Id a"), ("size 1000", "size 1001"),
                       ("since 9999", "since 10000"), ("uid 1", "uid 2"), ("uid 1-5", "uid 1-4"), ("uid 3-", "uid 4-"),
                       ("flag a", "flag b"), ("has To", "has Cc"), ("from ann@oak", "to ann@oak"))


class Rules(Case):
    """Pairs that only one rule of q8 keeps from being apart, and beside them some that are apart."""

    def test_1_one_writer(self):
        self.are_alike(("from ann@oak and from bo@elm", "not all"), ("from a@b and not from c@d", "from a@b"))
        self.are_apart(("to ann@oak and to bo@elm", "not all"), ("not from ann@oak and not from bo@elm", "all"),
                       ("from ann@oak and header From bo and header From elm", "not all"))

    def test_1_addresses_and_headers(self):
        for kind, name in (("from", "From"), ("to", "To"), ("cc", "Cc")):
            self.are_alike((f"{kind} a1@b", f"{kind} a1@b and has {name}"),
                           (f"{kind} a1@b", f"{kind} a1@b and header {name} a1"),
                           (f"{kind} a1@b", f"{kind} a1@b and header {name} b"),
                           (f"{kind} a1@b", f"{kind} a1@b and term a1"), (f"{kind} a1@b", f"{kind} a1@b and term b"),
                           (f"{kind} a1@b and not header {name} b and not has {name}", "not all"))
            self.are_apart((f"header {name} a1 and header {name} b", f"{kind} a1@b"),
                           (f"{kind} a1@b", f"{kind} a1@b and header {name} a"),
                           (f"{kind} a1@b", f"{kind} a1@b and text b"), (f"has {name}", f"{kind} a1@b"),
                           (f"{kind} a1@b", f"{kind} a1@b and has X"), (f"{kind} a1@b and term c", f"{kind} a1@b"))

    def test_2_headers(self):
        self.are_alike(("header X t", "header X t and has X"), ("header X t", "header X t and term t"),
                       ("subject t and not has Subject", "not all"), ("header Text t and not term t", "not all"))
        self.are_apart(("has X and term t", "header X t"), ("header X t", "header X t and has Y"),
                       ("header X t", "header X t and term u"), ("header X t", "header X t and text t"),
                       ("has X and not header X t", "not all"), ("term t and not header X t", "not all"),
                       ("header Text t and not text t", "not all"))

    def test_2_text(self):
        self.are_alike(("text t", "text t and term t"), ("text t and not term t", "not all"))
        self.are_apart(("term t", "text t and term t"), ("term t and not text t", "not all"), ("text t", "text t and term u"))

    def test_3_sizes(self):
        self.are_alike(("size 5000 and size 1000", "size 5000"), ("size 5000 and not size 4999", "not all"),
                       ("size 19999 and not size 1000", "not all"))
        self.are_apart(("size 1000 and not size 1001", "not all"), ("size 19998 and not size 19999", "not all"),
                       ("size 4999 and not size 5000", "not all"), ("not size 1000", "not all"))

    def test_3_turns(self):
        self.are_alike(("since 70 and since 69", "since 70"), ("since 10000 and not since 1", "not all"))
        self.are_apart(("since 1 and not since 2", "not all"), ("since 9999 and not since 10000", "not all"),
                       ("not since 1", "not all"), ("since 70 and size 1000", "since 70"), ("since 70", "size 1000"))

    def test_3_sizes_and_turns_do_not_hang_together(self):
        self.are_apart(("since 5000 and not size 1000", "not all"), ("size 5000 and not since 1000", "not all"))

    def test_4_uids(self):
        self.are_alike(("uid 3-9 and uid 5-20", "uid 5-9"), ("uid 1-4 or uid 5-9", "uid 1-9"), ("uid 3 and uid 4", "not all"),
                       ("uid 1-5 or uid 4-", "all"), ("uid 5- and not uid 7-", "uid 5-6"),
                       ("uid 1-999999998 or uid 999999999", "all"), ("not uid 2-", "uid 1"))
        self.are_apart(("uid 1-4 or uid 6-9", "uid 1-9"), ("uid 3-9 and uid 5-20", "uid 5-10"), ("uid 1-4 or uid 6-", "all"),
                       ("uid 1-999999997 or uid 999999999", "all"), ("not uid 2-", "not all"),
                       ("uid 2- and not uid 2-999999998", "not all"))

    def test_5_flags(self):
        eight = " and ".join(f"flag {letter}" for letter in "abcdefgh")
        self.are_alike((f"{eight} and flag i", "not all"), (f"{eight} and not flag i", eight),
                       (f"{eight} and ( flag i or flag j )", "not all"))
        self.are_apart(("flag b and flag c and flag a", "not all"), (eight, "not all"), (f"{eight} and not flag i", "not all"),
                       (" and ".join(f"not flag {letter}" for letter in "abcdefghi"), "not all"))

    def test_5_only_flags_are_counted(self):
        for kind in ("text", "term", "to", "subject", "thread"):
            words = [f"{letter}@x" if kind == "to" else letter for letter in "abcdefghi"]
            self.are_apart((" and ".join(f"{kind} {word}" for word in words), "not all"))

    def test_6_threads(self):
        self.are_alike(("thread a and not has Id and not has Re", "not all"),
                       ("thread a", "thread a and ( has Id or has Re )"),
                       ("has Id or has Re or thread a and thread b", "has Id or has Re"))
        self.are_apart(("thread a and not has Id", "not all"), ("thread a and not has Re", "not all"),
                       ("thread a and has Re and has Id", "not all"), ("has Id and has Re and not thread a", "not all"),
                       ("thread a and not has From", "not all"), ("thread a and thread b", "thread a"),
                       ("text a and not has Id and not has Re", "not all"),
                       ("not thread a and not has Id and not has Re", "not all"))


class Together(Case):
    def test_samples_with_a_second_record(self):
        for text in ("thread a and not header Re a and not header Id a", "thread a and thread b and not has Re",
                     "thread a and thread B and thread ! and not thread -!", "thread a and not term a",
                     "thread a and header Id a and header Re a and not thread b and not text a",
                     "thread a and not has Id and header Re b and header Re c and not thread b and not thread c",
                     "thread z and not has Re and header Id b and not thread b and has Coding",
                     "thread ! and thread -! and thread --! and not thread ---!", "thread a and uid 1",
                     "thread a and uid 2 and flag a", "thread a and not uid 1"):
            self.are_apart((text, "not all"))
        self.assertEqual(len(apart(read_query("thread a and not term a"), ("not", ("all",)))), 2)

    def test_words_that_join_are_none_of_the_words_that_are_asked(self):
        for text in ("thread a and not thread !", "thread a and not thread ! and not thread -!",
                     "thread a and not has Re and not thread ! and not thread -!", "header Re a and not thread !a",
                     "thread b and header Re a and not thread a and not thread !a and not thread -!a",
                     "thread a" + "".join(f" and not thread {'-' * many}!" for many in range(11))):
            self.are_apart((text, "not all"))

    def test_words_of_the_record_itself(self):
        for text in ("header Id a and not thread a", "header Re a and not thread a", "header Re a and has Id and not thread a",
                     "header Re six and header Id six and not thread six and not term Six1",
                     "has Id and has Re and not thread ! and not thread -! and not term 0"):
            self.are_apart((text, "not all"))

    def test_letters_with_codings_and_several_headers(self):
        for text in ("header Coding six and text a and not text b", "header Coding six and size 19999 and text 0 and term z",
                     "has Coding and size 1000 and not term six", "to a@b and to c@d and not to a@d and header To x and cc a@b",
                     "from a@b and header From c and not from c@b and not header From d and to c@b",
                     "header A a and header B b and header C c and not has D and not term d and term e and not text e",
                     "header X a and header X b and header X c and not header X d and not header Y a"):
            self.are_apart((text, "not all"))

    def test_names_of_headers_that_are_single_letters(self):
        some = " and ".join(f"not has {letter}" for letter in "ABCDEFGHIJKL")
        self.are_apart((some, "not all"))
        self.are_apart((" and ".join(f"has {letter}" for letter in "ABCDEFGHIJKL"), "not all"))
        self.are_apart((" and ".join(f"header {letter} {letter}" for letter in "ABCDEFGHIJK") + " and not size 1000", "not all"))

    def test_a_small_letter_has_room_for_eleven_tests(self):
        long = " and ".join(f"header {letter}{'n' * 19} {letter * 30}" for letter in "ABCDEFGHIJK")
        self.are_apart((f"{long} and not size 1000", "not all"), (f"{long} and size 19999", "not all"))
        words = " and ".join(f"thread {letter * 400}" for letter in "abcd")
        self.are_apart((f"{words} and not size 1000", "not all"))
        self.are_apart((" and ".join(f"thread {'-' * many}!" for many in range(11)) + " and not size 1000", "not all"))
        self.are_apart((" and ".join(f"term {letter * 30}" for letter in "abcdefghijk") + " and not size 1000", "not all"))

    def test_names_of_headers_that_are_asked_with_a_term(self):
        some = " and ".join(f"not header {letter} t" for letter in "ABCDEFGHIJK")
        self.are_apart((f"term t and {some}", "not all"), (f"term t and not text t and {some[:-len(' and not header K t')]}",
                                                           "not all"))

    def test_letters_of_each_size(self):
        for size in list(range(1000, 1530)) + [19497, 19498, 19499, 19998]:
            query = read_query(f"size {size} and not size {size + 1} and text a")
            self.assertEqual([size_of(record[5]) for record in self.sampled(query, ("not", ("all",)))], [size + 1])

    def test_the_greatest_letter(self):
        self.are_apart(("size 19999 and text a and term b and has C and from a@b", "not all"))
        sample = apart(read_query("size 19999"), ("not", ("all",)))
        self.assertEqual(records_that_hold(read_query("size 19999"), sample), [sample[0][1]])


class Many(Case):
    def refused(self, one, other):
        with self.assertRaises(BadQuery) as caught:
            apart(one, other)
        self.assertEqual((caught.exception.place, caught.exception.reason), (0, "many tests"))

    def test_12_and_13_unlike_tests(self):
        twelve = read_query(" and ".join(f"text {letter}" for letter in "abcdefghijkl"))
        more = read_query("text m")
        self.sampled(twelve, ("not", twelve))
        self.refused(twelve, more)
        self.refused(more, twelve)
        self.refused(("and", (twelve, more)), ("all",))
        self.refused(("and", (twelve, more)), ("and", (twelve, more)))
        self.refused(("or", (("all",), twelve, more)), ("all",))

    def test_all_does_not_count(self):
        twelve = read_query(" or ".join(f"flag {letter}" for letter in "abcdefghijkl"))
        self.sampled(("and", (twelve, ("all",))), ("not", ("all",)))

    def test_a_test_that_both_have_counts_once(self):
        one = read_query(" and ".join(f"text {letter}" for letter in "abcdefghijkl"))
        other = read_query(" or ".join(f"not text {letter}" for letter in "lkjihgfedcba"))
        self.sampled(one, other)
        self.assertIsNone(apart(one, ("not", other)))
        self.sampled(("and", (one, one)), ("or", (other, other)))

    def test_tests_that_have_unlike_values_are_unlike(self):
        tests = ("uid 1", "uid 1-2", "size 1000", "since 1000", "text a", "term a", "subject a", "header A a", "has A",
                 "flag a", "thread a", "to a@a")
        query = read_query(" or ".join(tests))
        self.sampled(query, ("not", query))
        self.refused(query, read_query("cc a@a"))
        self.sampled(query, read_query("header subject A"))


class Chance(Case):
    TESTS = [read_query(text) for text in (
        "all", "from a@b", "from a@c", "to a@b", "cc a@b", "has From", "has To", "has Id", "has Re", "has Coding",
        "header From a", "header To b", "header Id a", "header Re a", "header Coding six", "text a", "term a", "term b",
        "term six", "size 1000", "size 1001", "size 5000", "since 1", "since 2", "uid 1", "uid 1-2", "uid 2-5", "uid 3-",
        "flag a", "flag b", "thread a", "thread b", "thread !")]

    def test_as_the_slow_words(self):
        chance = random.Random(78)
        found = {True: 0, False: 0}
        for _ in range(700):
            some = chance.sample(self.TESTS, 6)
            one, other = any_query(chance, 4, some), any_query(chance, 3, some)
            kind = chance.randrange(3)
            if kind > 0:
                # Queries that are like one another but for a little.
                other = (("or", "and")[kind - 1], (one, ("and", (one, other)) if kind == 1 else ("or", (other, one))))
            if chance.random() < 0.3:
                one, other = ("and", (one, other)), other
            self.assertTrue(is_query(one) and is_query(other))
            wanted = oracles.are_apart(one, other)
            found[wanted] += 1
            if wanted:
                self.sampled(one, other)
            else:
                self.assertIsNone(apart(one, other), (one, other))
        self.assertGreater(min(found.values()), 100)

    def test_records_by_chance_do_not_tell_apart_what_is_alike(self):
        chance = random.Random(79)
        sets = []
        for _ in range(60):
            uids = chance.sample((1, 2, 3, 5, 6, 9), chance.randrange(1, 4))
            sets.append([("kept", uid, 1, chance.choice(((), ("a",), ("a", "b"))), chance.choice((0, 1, 2, 9)),
                          any_letter(chance, 2)) for uid in sorted(uids)])
        for _ in range(150):
            some = chance.sample(self.TESTS, 4)
            one, other = any_query(chance, 3, some), any_query(chance, 3, some)
            if apart(one, other) is None:
                for records in sets:
                    self.assertEqual(records_that_hold(one, records), records_that_hold(other, records), (one, other))


if __name__ == "__main__":
    unittest.main()
