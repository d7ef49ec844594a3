"""Filters that are told apart, rules that are reached, tight forms: fi6, fi7."""

import random
import time
import unittest

from oncemail.errors import BadFilter
from oncemail.filters import is_filter, read_filter, run_filter, write_filter
from oncemail.letters import is_letter
from oncemail.queries import read_query
from oncemail.shorter import filters_apart, reached, shorten
from tests import index_oracles as oracles
from tests.oracles import right_letter
from tests.query_oracles import tells
from tests.test_filters import EXAMPLE, any_filter, asking

TESTS = [read_query(text) for text in ("all", "from a@b", "has From", "header From a", "term a", "text a", "size 1000",
                                       "size 5000", "since 1", "since 2", "to a@b", "has Id", "has Re")]
REACHED = """when size 5000
  drop
  stop
when size 4999
  keep
when size 6000
  refuse
when not size 4999
  refuse
when all
  stop
when text x
  keep
"""


class Case(unittest.TestCase):
    def right(self, pair):
        """The letter and the turn of a pair, which are right ones."""
        self.assertIs(type(pair), tuple)
        letter, turn = pair
        self.assertTrue(is_letter(letter) and right_letter(letter), letter)
        self.assertIs(type(turn), int)
        self.assertTrue(0 <= turn <= 10000)
        return letter, turn

    def told(self, one, other):
        """The pair by which two filters are told apart."""
        letter, turn = self.right(filters_apart(one, other))
        self.assertNotEqual(run_filter(one, letter, turn), run_filter(other, letter, turn), (one, other))
        self.assertNotEqual(oracles.outcome_of_letter(one, letter, turn),
                            oracles.outcome_of_letter(other, letter, turn))
        return letter, turn

    def are_apart(self, *pairs):
        for one, other in pairs:
            with self.subTest(one=one, other=other):
                one, other = read_filter(one), read_filter(other)
                self.told(one, other)
                self.told(other, one)
                self.assertTrue(oracles.are_told_apart(one, other))

    def are_alike(self, *pairs):
        for one, other in pairs:
            with self.subTest(one=one, other=other):
                one, other = read_filter(one), read_filter(other)
                self.assertIsNone(filters_apart(one, other))
                self.assertIsNone(filters_apart(other, one))
                self.assertFalse(oracles.are_told_apart(one, other))

    def refused(self, call, *given):
        with self.assertRaises(BadFilter) as caught:
            call(*given)
        self.assertEqual((caught.exception.line, caught.exception.reason), (0, "many tests"))


class Apart(Case):
    def test_a_filter_and_itself(self):
        for text in ("", EXAMPLE, REACHED):
            self.are_alike((text, text))

    def test_filters_without_rules(self):
        self.are_alike(("", "when all\n  keep\n"), ("", "when all\n  stop\n"), ("", "when not all\n  refuse\n"))
        self.are_apart(("", "when all\n  drop\n"), ("", "when all\n  keep red\n"), ("", "when all\n  refuse\n"),
                       ("", "when text a\n  forward a@b\n"))

    def test_the_order_of_the_boxes(self):
        self.are_apart(("when all\n  file a\n  file b\n", "when all\n  file b\n  file a\n"),
                       ("when text x\n  file a\nwhen all\n  file b\n", "when all\n  file b\nwhen text x\n  file a\n"))
        self.are_alike(("when text x\n  file a\nwhen not text x\n  file b\n",
                        "when not text x\n  file b\nwhen text x\n  file a\n"))

    def test_the_flags(self):
        self.are_apart(("when all\n  keep a\n", "when all\n  keep b\n"), ("when all\n  keep a b\n", "when all\n  keep a\n"))
        self.are_alike(("when all\n  keep a\n  keep b\n", "when all\n  keep b\n  keep a\n"),
                       ("when all\n  keep a b c d e f g h\n  keep i\n", "when all\n  keep a b c d e f g h\n"))
        self.are_apart(("when all\n  keep b c d e f g h i\n  keep a\n", "when all\n  keep a b c d e f g h\n"))

    def test_a_turn_or_a_size_at_an_edge(self):
        self.are_apart(("when since 5\n  drop\n", "when since 6\n  drop\n"), ("when since 10000\n  drop\n", ""),
                       ("when since 1\n  drop\n", "when all\n  drop\n"), ("when size 19999\n  drop\n", ""),
                       ("when size 1000\n  drop\n", "when size 1001\n  drop\n"),
                       ("when size 19998\n  drop\n", "when size 19999\n  drop\n"))
        letter, turn = self.told(read_filter("when since 9999\n  drop\n"), read_filter("when since 10000\n  drop\n"))
        self.assertEqual(turn, 9999)
        self.are_alike(("when since 5 or since 6\n  drop\n", "when since 5\n  drop\n"),
                       ("when size 1001 and size 1000\n  drop\n", "when size 1001\n  drop\n"))

    def test_queries_that_the_rules_of_q8_forbid_or_allow(self):
        for less, more in (("from a@b", "header From b"), ("text a", "term a"), ("header X a", "has X"), ("to a@b", "term a"),
                           ("header X a", "term a"), ("cc a@b", "has Cc")):
            self.are_alike((f"when {less} and not {more}\n  refuse\n", ""))
            self.are_apart((f"when {more} and not {less}\n  refuse\n", ""))
        self.are_alike(("when from a@b and from c@d\n  drop\n", ""))
        self.are_apart(("when to a@b and to c@d\n  drop\n", ""))

    def test_deeds_that_change_nothing(self):
        self.are_alike(("when all\n  drop\n  keep\n", ""), ("when all\n  keep\n  drop\n", "when all\n  keep\n"),
                       ("when all\n  forward a@b\n  forward c@d\n  drop\n", "when all\n  forward a@b\n"),
                       ("when all\n  file a\n  refuse\n", "when all\n  refuse\n"),
                       ("when text x\n  stop\nwhen all\n  stop\n", ""))
        self.are_apart(("when text x\n  stop\nwhen all\n  drop\n", "when all\n  drop\n"))

    def test_12_and_13_unlike_tests(self):
        twelve = asking(read_query(" and ".join(f"text {letter}" for letter in "abcdefghijkl")))
        dropped = ("filter", (("rule", twelve[1][0][1], (("drop",),)),))
        more = asking(read_query("text m or all"))
        self.told(twelve, dropped)
        self.told(dropped, ("filter", twelve[1] + read_filter("when all\n  keep\n")[1]))
        self.refused(filters_apart, twelve, more)
        self.refused(filters_apart, more, dropped)
        both = ("filter", twelve[1] + more[1])
        self.refused(filters_apart, both, ("filter", ()))
        self.refused(filters_apart, both, both)

    def test_a_test_of_both_counts_once(self):
        one = read_filter("".join(f"when text {letter}\n  file {letter}\n" for letter in "abcdefghijkl"))
        other = read_filter("".join(f"when not not text {letter}\n  file {letter}\n" for letter in "abcdefghijkl"))
        self.assertIsNone(filters_apart(one, other))
        self.told(one, ("filter", other[1][:-1]))

    def test_great_filters_take_no_long_time(self):
        begin = time.perf_counter()
        rules = [("rule", ("text", "abcdefghijkl"[at % 12]), tuple(("file", f"b{at}x{n}", ()) for n in range(8)))
                 for at in range(40)]
        one = ("filter", tuple(rules))
        self.assertTrue(is_filter(one))
        self.assertIsNone(filters_apart(one, one))
        self.told(one, ("filter", (*rules[:-1], (*rules[-1][:2], rules[-1][2][:7]))))
        self.assertLess(time.perf_counter() - begin, 30)

    def test_by_chance(self):
        chance = random.Random(61)
        found = {True: 0, False: 0}
        for _ in range(400):
            some = chance.sample(TESTS, 5)
            one = any_filter(chance, some)
            places = oracles.places(one)
            if places and chance.random() < 0.8:
                other = oracles.without(one, set(chance.sample(places, min(len(places), chance.choice((1, 1, 2))))))
            else:
                other = any_filter(chance, some, 3)
            wanted = oracles.are_told_apart(one, other)
            found[wanted] += 1
            if wanted:
                self.told(one, other)
            else:
                self.assertIsNone(filters_apart(one, other), (one, other))
        self.assertGreater(min(found.values()), 60)


class Reached(Case):
    def at(self, sieve, place):
        """The pair by which a rule is reached."""
        letter, turn = self.right(reached(sieve, place))
        self.assertTrue(oracles.is_reached(sieve, lambda test: tells(test, ("kept", 1, 1, (), turn, letter), ()), place))
        self.assertTrue(oracles.can_be_reached(sieve, place))
        return letter, turn

    def never(self, sieve, place):
        self.assertIsNone(reached(sieve, place))
        self.assertFalse(oracles.can_be_reached(sieve, place))

    def test_rules_that_are_reached_and_rules_that_are_not(self):
        sieve = read_filter(REACHED)
        self.at(sieve, 0)
        self.at(sieve, 1)
        self.never(sieve, 2)
        self.at(sieve, 3)
        self.at(sieve, 4)
        self.never(sieve, 5)

    def test_a_rule_that_is_reached_by_one_size_alone(self):
        sieve = read_filter(REACHED)
        letter, _ = self.at(sieve, 1)
        self.assertEqual(run_filter(sieve, letter, 0), ("deeds", (("inbox", ()),), None))
        self.assertEqual(len(oracles.written(letter)), 5000)

    def test_a_rule_that_is_reached_by_one_turn_alone(self):
        sieve = read_filter("when since 70\n  stop\nwhen not since 69\n  refuse\nwhen all\n  keep\n")
        self.assertEqual(self.at(sieve, 2)[1], 69)

    def test_queries_that_never_hold(self):
        for query in ("not all", "text a and not term a", "from a@b and from c@d", "size 5000 and not size 1000"):
            self.never(read_filter(f"when all\n  keep\nwhen {query}\n  keep\n"), 1)
            self.at(read_filter(f"when {query}\n  stop\nwhen all\n  keep\n"), 1)

    def test_only_stop_and_refuse_end(self):
        for deed in ("keep", "file a", "drop", "forward a@b"):
            self.at(read_filter(f"when all\n  {deed}\nwhen all\n  keep\n"), 1)
        for deed in ("stop", "refuse"):
            self.never(read_filter(f"when all\n  keep\n  {deed}\n  drop\nwhen all\n  keep\n"), 1)
            self.at(read_filter(f"when text a\n  {deed}\nwhen all\n  keep\n"), 1)
            self.never(read_filter(f"when term a\n  {deed}\nwhen text a\n  keep\n"), 1)
            # The deeds of its own rule do not count.
            self.at(read_filter(f"when all\n  {deed}\n"), 0)

    def test_12_and_13_unlike_tests(self):
        text = "".join(f"when text {letter} or all\n  keep\n" for letter in "abcdefghijkl")
        self.at(read_filter(text), 11)
        self.refused(reached, read_filter(text + "when term a\n  keep\n"), 0)
        self.refused(reached, read_filter(text + "when term a and not all\n  keep\n"), 12)

    def test_by_chance(self):
        chance = random.Random(62)
        found = {True: 0, False: 0}
        for _ in range(200):
            sieve = any_filter(chance, chance.sample(TESTS, 4), 7)
            for place in range(len(sieve[1])):
                wanted = oracles.can_be_reached(sieve, place)
                found[wanted] += 1
                if wanted:
                    self.at(sieve, place)
                else:
                    self.never(sieve, place)
        self.assertGreater(min(found.values()), 60)


class Tight(Case):
    def tight(self, sieve):
        """The tight form of a filter, which is one."""
        short = shorten(sieve)
        self.assertTrue(is_filter(short))
        self.assertFalse(oracles.are_told_apart(sieve, short), (sieve, short))
        self.assertTrue(oracles.is_tight(short), (sieve, short))
        if len(oracles.places(sieve)) <= 9:
            self.assertTrue(oracles.comes_from(short, sieve))
        return short

    def shortens(self, text, *wanted):
        """The tight form of a filter is one of these."""
        with self.subTest(text=text):
            self.assertIn(write_filter(self.tight(read_filter(text))), wanted)

    def test_the_examples(self):
        self.shortens(EXAMPLE, "when from ann@oak and not subject spam\n  file work red\n  stop\n"
                               "when all\n  file work blue\n")
        self.shortens("when all\n  drop\n  keep\n", "")

    def test_deeds_that_depend_on_one_another(self):
        self.shortens("when all\n  keep\n  drop\n", "")
        self.shortens("when all\n  keep\n  keep\n", "")
        self.shortens("when all\n  drop\n  drop\n", "when all\n  drop\n")
        self.shortens("when all\n  stop\n  refuse\n", "")
        self.shortens("when all\n  file a\n  refuse\n  stop\nwhen all\n  keep\n", "when all\n  refuse\n")
        self.shortens("when all\n  forward a@b\n  forward c@d\n  drop\n", "when all\n  forward a@b\n")
        self.shortens("when all\n  file a x\n  file a x\n", "when all\n  file a x\n")
        self.shortens("when text a\n  stop\nwhen all\n  stop\nwhen all\n  refuse\n", "")

    def test_a_rule_whose_deeds_are_all_left_out(self):
        self.shortens("when text a\n  stop\nwhen text b\n  file b\n  stop\nwhen not all\n  refuse\n",
                      "when text a\n  stop\nwhen text b\n  file b\n")
        self.shortens("", "")
        self.shortens("when text a and not term a\n  refuse\n", "")

    def test_what_is_left_stays_in_its_order(self):
        self.shortens("when text a\n  file b\n  keep\n  file a\n  drop\nwhen all\n  keep\n  file c\n  stop\n",
                      "when text a\n  file b\n  keep\n  file a\nwhen all\n  keep\n  file c\n")

    def test_flags_beyond_eight(self):
        self.shortens("when all\n  keep a b c d e f g h\n  keep i\n", "when all\n  keep a b c d e f g h\n")
        self.shortens("when text x\n  keep a b c d e f g\nwhen all\n  keep h i\n",
                      "when text x\n  keep a b c d e f g\nwhen all\n  keep h i\n")

    def test_8_and_9_unlike_tests(self):
        text = "".join(f"when text {letter}\n  file {letter}\n  drop\n" for letter in "abcdefgh")
        self.shortens(text, text.replace("  drop\n", ""))
        self.refused(shorten, read_filter(text + "when text i or all\n  keep\n"))
        self.shortens(text + "when not text a and all\n  file a\n",
                      text.replace("  drop\n", "") + "when not text a and all\n  file a\n")

    def test_great_filters_take_no_long_time(self):
        begin = time.perf_counter()
        for deeds in ((("keep", ()),) * 8, (("drop",),) * 8, tuple(("file", f"b{n}", ()) for n in range(7)) + (("drop",),)):
            sieve = ("filter", tuple(("rule", ("text", "abcdefgh"[at % 8]), deeds) for at in range(40)))
            short = shorten(sieve)
            self.assertIsNone(filters_apart(sieve, short))
        self.assertLess(time.perf_counter() - begin, 40)

    def test_by_chance(self):
        chance = random.Random(63)
        fewer = 0
        for _ in range(250):
            sieve = any_filter(chance, chance.sample(TESTS, 4))
            short = self.tight(sieve)
            fewer += short != sieve
        self.assertGreater(fewer, 100)

    def test_what_is_handed_in_stays(self):
        sieve = read_filter(EXAMPLE)
        told = repr(sieve)
        shorten(sieve)
        filters_apart(sieve, ("filter", ()))
        reached(sieve, 2)
        self.assertEqual(repr(sieve), told)


if __name__ == "__main__":
    unittest.main()
