"""Filters, their texts and how they are read: fi1 to fi4."""

import random
import unittest

from oncemail.errors import BadFilter, MailError
from oncemail.filters import is_filter, read_filter, write_filter
from oncemail.queries import read_query
from tests import index_oracles as oracles
from tests.test_queries import ALL, any_query, changes, nots

ANN = ("at", "ann", "oak")
LETTERS = "abcdefghijklmnopqrstuvwxyz"
EXAMPLE = """when from ann@oak and not subject spam
  file work red
  stop
when size 5000
  drop
when all
  file work blue
  stop
"""
SIEVE = ("filter", (
    ("rule", ("and", (("from", ANN), ("not", ("header", "Subject", "spam")))), (("file", "work", ("red",)), ("stop",))),
    ("rule", ("size", 5000), (("drop",),)),
    ("rule", ALL, (("file", "work", ("blue",)), ("stop",))),
))
DEEDS = {
    "file work": ("file", "work", ()),
    "file a1 blue red": ("file", "a1", ("blue", "red")),
    "file inbox a b c d e f g h": ("file", "inbox", tuple("abcdefgh")),
    "file " + "a" * 12 + " " + "z" * 12: ("file", "a" * 12, ("z" * 12,)),
    "keep": ("keep", ()),
    "keep red": ("keep", ("red",)),
    "keep a b c d e f g h": ("keep", tuple("abcdefgh")),
    "forward ann@oak": ("forward", ANN),
    "refuse": ("refuse",),
    "drop": ("drop",),
    "stop": ("stop",),
}


def ruled(*deeds, query=ALL):
    return ("filter", (("rule", query, deeds),))


def asking(query):
    return ruled(("stop",), query=query)


class Case(unittest.TestCase):
    def asked(self, thing, wanted=None):
        told = is_filter(thing)
        self.assertIs(type(told), bool)
        self.assertEqual(told, oracles.right_filter(thing) if wanted is None else wanted, thing)

    def reads(self, text, sieve):
        with self.subTest(text=text[-200:]):
            self.assertEqual(read_filter(text), sieve)
            self.assertIs(is_filter(sieve), True)
            self.assertEqual(read_filter(write_filter(sieve)), sieve)
            self.assertEqual(oracles.read_sieve(text), sieve)

    def refused(self, text, line, reason):
        with self.subTest(text=text[-200:]):
            with self.assertRaises(BadFilter) as caught:
                read_filter(text)
            self.assertEqual((caught.exception.line, caught.exception.reason), (line, reason))
            self.assertIsInstance(caught.exception, MailError)
            with self.assertRaises(oracles.Fault) as wanted:
                oracles.read_sieve(text)
            self.assertEqual(wanted.exception.told, (line, reason))


class Filters(Case):
    def test_right_ones(self):
        self.asked(("filter", ()), True)
        self.asked(SIEVE, True)
        for deed in DEEDS.values():
            self.asked(ruled(deed), True)

    def test_one_place_changed(self):
        some = ruled(("keep", ("a", "b")), ("forward", ANN), query=("not", ("has", "A")))
        for sieve in (("filter", ()), SIEVE, some):
            for thing in changes(sieve):
                self.asked(thing)

    def test_things_that_are_no_filters(self):
        for thing in (None, True, 1, "filter", (), [], ("filter",), ("filter", [], ()), ("filter", ()) + ((),), ["filter", ()],
                      ("Filter", ()), ("filter", None), ("filter", "ab"), ("filter", ("rule",)), ("filter", ((),)),
                      ("rule", ALL, (("stop",),)), ("filter", ("rule", ALL, (("stop",),))), "when all\n  stop\n"):
            self.asked(thing, False)

    def test_rules_and_deeds_that_are_none(self):
        stop = ("stop",)
        for rule in (("rule", ALL), ("rule", ALL, ()), ("rule", ALL, stop), ("rule", ALL, [stop]), ("when", ALL, (stop,)),
                     ("rule", "all", (stop,)), ("rule", (stop,), ALL), ("rule", ALL, (stop,), ()), ["rule", ALL, (stop,)],
                     ("rule", (), (stop,)), ("rule", ("and", (ALL,)), (stop,)), ("rule", ALL, None)):
            self.asked(("filter", (rule,)), False)
        for deed in ((), "stop", ("Stop",), ("stop", ()), ("drop", ()), ("refuse", "x"), ("file",), ("file", "a"), ("keep",),
                     ("file", "a", None), ("file", "A", ()), ("file", "1a", ()), ("file", "", ()), ("file", "a" * 13, ()),
                     ("file", "a b", ()), ("file", ("a",), ()), ("file", ("at", "a", "b"), ()), ("file", "a", ["x"]),
                     ("file", "a", ("x",), ()), ("file", "a", "x"), ("keep", ("x", "x")), ("keep", ("b", "a")),
                     ("keep", ("A",)), ("keep", ("a1",)), ("keep", ("",)), ("keep", (1,)), ("keep", (True,)), ("keep", None),
                     ("keep", "a"), ("keep", ("z" * 13,)), ("keep", (), ()), ("forward",), ("forward", "ann@oak"),
                     ("forward", ("at", "ann")), ("forward", ("at", "Ann", "oak")), ("forward", ANN, ANN),
                     ("forward", ["at", "ann", "oak"]), ("forward", None), ["stop"], (("stop",),), (True,), None,
                     ("copy", "a", ()), ("file", 0, ())):
            self.asked(ruled(deed), False)
            self.asked(ruled(stop, deed), False)

    def test_40_and_41_rules(self):
        rule = ("rule", ALL, (("stop",),))
        self.asked(("filter", (rule,) * 40), True)
        self.asked(("filter", (rule,) * 41), False)

    def test_8_and_9_deeds(self):
        self.asked(ruled(*[("drop",)] * 8), True)
        self.asked(ruled(*[("drop",)] * 9), False)
        self.asked(ruled(), False)

    def test_8_and_9_flags(self):
        for many in (8, 9):
            self.asked(ruled(("keep", tuple(LETTERS[:many]))), many == 8)
            self.asked(ruled(("file", "a", tuple(LETTERS[:many]))), many == 8)

    def test_tests_that_a_filter_cannot_have(self):
        for test in (("uid", 1, 5), ("flag", "red"), ("thread", "x")):
            self.asked(asking(test), False)
            self.asked(asking(("not", test)), False)
            self.asked(asking(("and", (ALL, ("or", (("size", 5000), ("not", test)))))), False)
            self.asked(asking(nots(12, test)), False)
            self.asked(("filter", SIEVE[1] + asking(test)[1]), False)
        for test in (("from", ANN), ("to", ANN), ("cc", ANN), ("has", "Id"), ("header", "Flag", "uid"), ("text", "flag"),
                     ("term", "thread"), ("size", 1000), ("since", 1)):
            self.asked(asking(("or", (ALL, ("not", test)))), True)

    def test_queries_that_are_none(self):
        self.asked(asking(nots(12)), True)
        self.asked(asking(nots(13)), False)
        self.asked(asking(("and", (ALL,) * 100)), True)
        self.asked(asking(("and", (ALL,) * 101)), False)
        self.asked(asking(("size", 999)), False)
        self.asked(asking(("text", True)), False)

    def test_a_text_of_5000_and_of_5001_signs(self):
        for more in (0, 1):
            sieve = sized_filter(5000 + more)
            self.assertEqual(len(write_filter(sieve)), 5000 + more)
            self.asked(sieve, more == 0)

    def test_things_nested_very_deep(self):
        deep = ()
        for _ in range(88):
            deep = (deep,)
        self.asked(deep, False)
        self.asked(("filter", deep), False)
        self.asked(asking(nots(40)), False)
        self.asked(ruled(("keep", deep[0][0][0])), False)


def sized_filter(size):
    """A filter whose text has this size, near 5000."""
    rules = ruled(*[("file", "a" * 12, ("b" * 12, "c" * 12))] * 8)[1] * 13
    last = ("or", (("text", "x" * 25), ("text", "y" * 25), ("text", "z" * (size - 4987))))
    return ("filter", (*rules, ("rule", last, (("stop",),))))


class Written(Case):
    def test_the_example(self):
        self.assertEqual(write_filter(SIEVE), EXAMPLE)
        self.reads(EXAMPLE, SIEVE)

    def test_each_deed(self):
        for text, deed in DEEDS.items():
            self.assertEqual(write_filter(ruled(deed)), f"when all\n  {text}\n")
            self.reads(f"when all\n  {text}\n", ruled(deed))

    def test_no_rules(self):
        self.assertEqual(write_filter(("filter", ())), "")
        self.reads("", ("filter", ()))

    def test_queries_are_written_as_queries(self):
        query = ("and", (("or", (("text", "a"), ("text", "b"))), ("header", "Subject", "x"), ("not", ("not", ALL))))
        self.assertEqual(write_filter(asking(query)), "when ( text a or text b ) and subject x and not not all\n  stop\n")

    def test_by_chance(self):
        chance = random.Random(21)
        for _ in range(150):
            sieve = any_filter(chance)
            self.asked(sieve, True)
            self.assertEqual(write_filter(sieve), oracles.filter_text(sieve))
            self.reads(write_filter(sieve), sieve)


TESTS = [read_query(text) for text in ("all", "from ann@oak", "to a1@elm", "has Id", "subject x", "text x", "term a1",
                                       "size 1000", "size 5000", "since 1", "since 70", "header To x")]


def any_filter(chance, tests=tuple(TESTS), most=5):
    rules = []
    for _ in range(chance.randrange(0, most)):
        deeds = tuple(any_deed(chance) for _ in range(chance.choice((1, 1, 2, 3))))
        rules.append(("rule", any_query(chance, chance.choice((0, 1, 2)), tests), deeds))
    return ("filter", tuple(rules))


def any_deed(chance):
    flags = tuple(sorted(chance.sample(("blue", "green", "red"), chance.choice((0, 0, 1, 2)))))
    return chance.choice((("file", chance.choice(("a", "b", "inbox")), flags), ("keep", flags), ("keep", ()), ("stop",),
                          ("drop",), ("refuse",), ("forward", chance.choice((ANN, ("at", "bo", "elm"))))))


class Reading(Case):
    def test_skipped_lines(self):
        self.reads("\n# a\n   \n  # b\nwhen all\n\n#\n   # when x\n  stop\n \n#drop\n", ruled(("stop",)))
        self.reads("#\n\n   \n", ("filter", ()))
        self.reads("# when all", ("filter", ()))

    def test_no_line_feed_at_the_end(self):
        self.reads("when all\n  stop", ruled(("stop",)))
        self.reads(EXAMPLE[:-1], SIEVE)

    def test_blanks(self):
        self.reads("when    text   a  and  all  \n stop   \n      keep   a   b \n",
                   ruled(("stop",), ("keep", ("a", "b")), query=("and", (("text", "a"), ALL))))

    def test_flags_in_any_order_and_several_times(self):
        self.reads("when all\n  file a red blue red\n  keep c a b a c\n",
                   ruled(("file", "a", ("blue", "red")), ("keep", ("a", "b", "c"))))
        self.reads("when all\n  keep h g f e d c b a h a b\n", ruled(("keep", tuple("abcdefgh"))))

    def test_words_that_look_like_others(self):
        self.reads("when text when\n  file when when\n  keep stop\n  file drop\n",
                   ruled(("file", "when", ("when",)), ("keep", ("stop",)), ("file", "drop", ()), query=("text", "when")))

    def test_several_rules(self):
        self.reads("when all\n  stop\nwhen not all\n  drop\n  keep\n",
                   ("filter", (("rule", ALL, (("stop",),)), ("rule", ("not", ALL), (("drop",), ("keep", ()))))))

    def test_40_rules_and_8_deeds(self):
        self.reads("when all\n  stop\n" * 40, ("filter", ruled(("stop",))[1] * 40))
        self.reads("when all\n" + "  stop\n" * 8, ruled(*[("stop",)] * 8))


class Faults(Case):
    def test_too_long(self):
        text = write_filter(sized_filter(4990))
        self.reads(text + "#" * 10, read_filter(text))
        self.refused(text + "#" * 11, 0, "too long")
        self.refused("x" * 5001, 0, "too long")
        self.refused("x" * 5000, 1, "unknown line")

    def test_too_long_only_when_it_is_written(self):
        whole = write_filter(sized_filter(5001))
        self.refused(whole, 0, "too long")
        # With one blank before a deed, or without the last line feed, the text that is read is shorter.
        self.refused(whole[:-1], 0, "too long")
        self.refused(whole.replace("  stop", " stop"), 0, "too long")
        self.refused(whole.replace("\n  ", "\n "), 0, "too long")
        self.reads(write_filter(sized_filter(5000)).replace("\n  ", "\n "), sized_filter(5000))
        # A fault of a line is told ahead of it.
        self.refused(whole.replace("\n  ", "\n ").replace("stop", "stip"), 119, "bad deed")

    def test_a_text_that_is_longer_than_the_written_one(self):
        text = write_filter(sized_filter(5000))
        self.refused(text + "#", 0, "too long")
        self.refused(text.replace("  stop", "   stop"), 0, "too long")

    def test_unknown_line(self):
        for line in ("if all", "When all", "when:", "whenall", "stop", "when, all", "filter", "x#", "wh en all", "("):
            self.refused(f"{line}\n  stop\n", 1, "unknown line")
            self.refused(f"when all\n  stop\n#\n{line}\n  stop\n", 4, "unknown line")
        self.refused("if all\n", 1, "unknown line")

    def test_many_rules(self):
        self.refused("when all\n  stop\n" * 41, 81, "many rules")
        self.refused("#\n" + "when all\n  stop\n" * 42, 82, "many rules")
        self.refused("when all\n  stop\n" * 40 + "when nothing\n", 81, "many rules")
        self.refused("when all\n  stop\n" * 40 + "whan all\n", 81, "unknown line")

    def test_bad_query(self):
        for query in ("", "  ", "nothing", "all all", "size 5", "not", "( all", "uid 5", "flag red", "thread x",
                      "all or not ( text a and flag red )", "not " * 13 + "all", "all #", "text a" + " " * 1994 + "b"):
            self.refused(f"when {query}\n  stop\n", 1, "bad query")
            self.refused(f"when all\n  stop\nwhen {query}\n", 3, "bad query")
        self.refused("when\n  stop\n", 1, "bad query")

    def test_a_query_of_2000_and_2001_signs(self):
        text = "all" + " " * 1991 + "or all"
        self.assertEqual(len(text), 2000)
        self.reads(f"when   {text}   \n  stop\n", asking(("or", (ALL, ALL))))
        self.refused(f"when {text.replace('or', ' or')}\n  stop\n", 1, "bad query")

    def test_no_deed(self):
        self.refused("when all\n", 1, "no deed")
        self.refused("when all", 1, "no deed")
        self.refused("when all\n\n  \n  # stop\n#\n", 1, "no deed")
        self.refused("when all\n  stop\nwhen all\nwhen all\n  stop\n", 3, "no deed")
        self.refused("when all\n  stop\n\nwhen all\n # x\n", 4, "no deed")

    def test_no_deed_ahead_of_the_faults_of_later_lines(self):
        self.refused("when all\nwhen nothing\n", 1, "no deed")
        self.refused("when all\nelse\n  stop\n", 1, "no deed")
        self.refused("when nothing\n", 1, "bad query")
        self.refused("when all\n  stap\n", 2, "bad deed")

    def test_no_rule(self):
        self.refused("  stop\n", 1, "no rule")
        self.refused("\n# x\n keep\nwhen all\n  stop\n", 3, "no rule")
        self.refused("  nothing\n", 1, "no rule")
        self.refused("  #\n  stop", 2, "no rule")

    def test_many_deeds(self):
        self.refused("when all\n" + "  stop\n" * 9, 10, "many deeds")
        self.refused("when all\n" + "  stop\n" * 4 + "#\n\n" + "  drop\n" * 6, 12, "many deeds")
        self.refused("when all\n" + "  stop\n" * 8 + "  nothing\n", 10, "many deeds")
        self.refused("when all\n" + "  stop\n" * 8 + "when all\n" + "  keep\n" * 9, 19, "many deeds")

    def test_bad_deed(self):
        for deed in ("nothing", "File a", "file", "forward", "forward a@b c", "forward a@b c@d", "forward x y", "refuse x",
                     "drop x", "stop x", "stop stop", "keep: x", "fileinto a", "when all", "x", "stop #", "forward a@b,c@d e"):
            self.refused(f"when all\n  {deed}\n", 2, "bad deed")
            self.refused(f"when all\n  stop\n {deed} ", 3, "bad deed")

    def test_bad_box(self):
        for box in ("A", "1a", "a-b", "a" * 13, "a@b", "a,", "#", "ann@oak"):
            self.refused(f"when all\n  file {box}\n", 2, "bad box")
            self.refused(f"when all\n  file {box} Red\n", 2, "bad box")

    def test_bad_address(self):
        for address in ("ann", "<ann@oak>", "Ann@oak", "ann@", "@oak", "ann@oak,", "ann@oak1", "a" * 13 + "@b"):
            self.refused(f"when all\n  forward {address}\n", 2, "bad address")

    def test_bad_flag(self):
        for flag in ("Red", "red1", "re-d", "r" * 13, "red,", "#x"):
            self.refused(f"when all\n  keep {flag}\n", 2, "bad flag")
            self.refused(f"when all\n  file a blue {flag} red\n", 2, "bad flag")
            self.refused(f"when all\n  keep {flag} a b c d e f g h i\n", 2, "bad flag")

    def test_many_flags(self):
        self.refused("when all\n  keep a b c d e f g h i\n", 2, "many flags")
        self.refused("when all\n  stop\n  file x i h g f e d c b a a\n", 3, "many flags")

    def test_several_faults_in_one_line_and_in_several(self):
        self.refused("  file A B\nwhen nothing\n", 1, "no rule")
        self.refused("when all\n  file A\nwhen nothing\n", 2, "bad box")
        self.refused("when nothing\n  file A\n", 1, "bad query")
        self.refused("when nothing\n  file A\n" + "  stop\n" * 9, 1, "bad query")
        self.refused("when all\n  stop\nwhen nothing\n  stop\nwhat\n", 3, "bad query")
        self.refused("what nothing\nwhen all\n", 1, "unknown line")

    def test_by_chance_as_the_slow_words(self):
        chance = random.Random(22)
        lines = ["when all", "when text a", "  stop", "  file a red", " keep", "  drop", "", "# x", "  # y"]
        odd = ["when", "when flag a", "whan all", "  file", "  keep A", "  forward a@b", "  forward a", "  file A", "  stop x",
               "when all or", "  nothing", "  keep a b c d e f g h i"]
        told = {}
        for _ in range(3000):
            some = [chance.choice(lines) for _ in range(chance.choice((1, 2, 5, 9, 14)))]
            for _ in range(chance.choice((0, 0, 1, 2))):
                some.insert(chance.randrange(len(some) + 1), chance.choice(odd))
            text = "\n".join(some) + chance.choice(("", "\n"))
            try:
                wanted = oracles.read_sieve(text)
            except oracles.Fault as fault:
                self.refused(text, *fault.told)
                told[fault.told[1]] = True
                continue
            self.reads(text, wanted)
            told[""] = True
        for reason in ("", "unknown line", "bad query", "no deed", "no rule", "many deeds", "bad deed", "bad box",
                       "bad address", "bad flag", "many flags"):
            self.assertIn(reason, told)


if __name__ == "__main__":
    unittest.main()
