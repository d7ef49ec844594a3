"""What comes of a letter by a filter: fi5."""

import random
import unittest

from oncemail.filters import read_filter, run_filter
from tests import index_oracles as oracles
from tests.samples import any_letter, headed, lined, sized
from tests.test_filters import ANN, EXAMPLE, any_filter

LETTER = lined("x")
BO = ("at", "bo", "elm")
KEPT = ("deeds", (("inbox", ()),), None)


class Case(unittest.TestCase):
    def comes(self, text, wanted, letter=LETTER, turn=0):
        sieve = read_filter(text)
        with self.subTest(text=text):
            self.assertEqual(run_filter(sieve, letter, turn), wanted)
            self.assertEqual(oracles.outcome_of_letter(sieve, letter, turn), wanted)

    def all_comes(self, deeds, wanted):
        """What comes of deeds that are done, in one rule and each in a rule of its own."""
        self.comes("when all\n" + "".join(f"  {deed}\n" for deed in deeds), wanted)
        self.comes("".join(f"when all\n  {deed}\n" for deed in deeds), wanted)


class Example(Case):
    def test_its_outcomes(self):
        short = headed(("From", "Ann <ann@oak>"), ("Subject", "lamps"))
        self.comes(EXAMPLE, ("deeds", (("work", ("red",)),), None), short)
        long = ("letter", (("From", "bo@elm"),), sized(6000)[2])
        self.comes(EXAMPLE, ("deeds", (("work", ("blue",)),), None), long)
        spam = headed(("From", "Ann <ann@oak>"), ("Subject", "Spam"))
        self.comes(EXAMPLE, ("deeds", (("work", ("blue",)),), None), spam)


class Deeds(Case):
    def test_no_rule_that_holds(self):
        self.comes("", KEPT)
        self.comes("when not all\n  refuse\n", KEPT)
        self.comes("when text y\n  drop\nwhen size 1000\n  file a\n", KEPT)

    def test_file(self):
        self.all_comes(["file a"], ("deeds", (("a", ()),), None))
        self.all_comes(["file a red blue"], ("deeds", (("a", ("blue", "red")),), None))
        self.all_comes(["file b", "file a"], ("deeds", (("b", ()), ("a", ())), None))

    def test_keep(self):
        self.all_comes(["keep"], KEPT)
        self.all_comes(["keep red", "file a"], ("deeds", (("inbox", ("red",)), ("a", ())), None))
        self.all_comes(["file a", "keep"], ("deeds", (("a", ()), ("inbox", ())), None))

    def test_keep_and_file_of_inbox(self):
        self.all_comes(["keep b", "file inbox a"], ("deeds", (("inbox", ("a", "b")),), None))
        self.all_comes(["file inbox", "file a", "keep c"], ("deeds", (("inbox", ("c",)), ("a", ())), None))

    def test_a_box_filed_into_several_times(self):
        self.all_comes(["file a x", "file b", "file a y x"], ("deeds", (("a", ("x", "y")), ("b", ())), None))
        self.all_comes(["file a d e f g h", "file a a b c i", "file a j"],
                       ("deeds", (("a", ("a", "b", "c", "d", "e", "f", "g", "h")),), None))
        self.all_comes(["file a s t u v w", "file a w x y z a b"],
                       ("deeds", (("a", ("a", "b", "s", "t", "u", "v", "w", "x")),), None))
        self.all_comes(["keep a b c d e f g h", "file inbox i", "keep a b", "file b i"],
                       ("deeds", (("inbox", tuple("abcdefgh")), ("b", ("i",))), None))

    def test_forward(self):
        self.all_comes(["forward ann@oak"], ("deeds", (), ANN))
        self.all_comes(["forward ann@oak", "forward bo@elm"], ("deeds", (), ANN))
        self.all_comes(["forward bo@elm", "keep", "forward ann@oak"], ("deeds", (("inbox", ()),), BO))
        self.all_comes(["forward bo@elm", "drop"], ("deeds", (), BO))

    def test_drop(self):
        self.all_comes(["drop"], ("drop",))
        self.all_comes(["drop", "drop"], ("drop",))
        self.all_comes(["drop", "keep"], KEPT)
        self.all_comes(["file a", "drop"], ("deeds", (("a", ()),), None))
        self.all_comes(["drop", "forward ann@oak"], ("deeds", (), ANN))

    def test_stop(self):
        self.all_comes(["stop"], KEPT)
        self.all_comes(["stop", "drop"], KEPT)
        self.all_comes(["drop", "stop", "keep"], ("drop",))
        self.all_comes(["file a", "stop", "file b", "refuse"], ("deeds", (("a", ()),), None))
        self.comes("when all\n  file a\n  stop\n  file b\nwhen all\n  refuse\n", ("deeds", (("a", ()),), None))
        self.comes("when not all\n  stop\nwhen all\n  file a\nwhen all\n  stop\n  drop\nwhen all\n  file b\n",
                   ("deeds", (("a", ()),), None))

    def test_refuse(self):
        self.all_comes(["refuse"], ("refused",))
        self.all_comes(["file a", "forward ann@oak", "refuse"], ("refused",))
        self.all_comes(["refuse", "file a"], ("refused",))
        self.all_comes(["drop", "refuse", "stop"], ("refused",))
        self.comes("when all\n  file a\n  refuse\n  file b\nwhen all\n  keep\n", ("refused",))
        self.comes("when not all\n  refuse\nwhen all\n  keep\n", KEPT)

    def test_queries_ask_the_letter_and_the_turn(self):
        text = "when since 5\n  file late\nwhen has Id or subject x\n  file known\nwhen text x\n  file body\n"
        self.comes(text, ("deeds", (("body", ()),), None), LETTER, 4)
        self.comes(text, ("deeds", (("late", ()), ("body", ())), None), LETTER, 5)
        self.comes(text, ("deeds", (("known", ()),), None), headed(("Subject", "X")), 0)
        self.comes(text, KEPT, headed(("To", "x")), 0)
        self.comes("when since 10000\n  drop\n", ("drop",), LETTER, 10000)

    def test_the_edges_of_size(self):
        for size, wanted in ((5000, KEPT), (5001, ("drop",))):
            self.comes("when size 5000\n  drop\n", wanted, sized(size))

    def test_by_chance(self):
        chance = random.Random(55)
        kinds = {}
        for _ in range(600):
            sieve, letter, turn = any_filter(chance), any_letter(chance, 2), chance.choice((0, 1, 69, 70, 10000))
            told = run_filter(sieve, letter, turn)
            self.assertEqual(told, oracles.outcome_of_letter(sieve, letter, turn), sieve)
            kinds[told[0]] = kinds.get(told[0], 0) + 1
        self.assertGreater(min(kinds["deeds"], kinds["drop"], kinds["refused"]), 5)

    def test_what_is_handed_in_stays(self):
        sieve = read_filter(EXAMPLE)
        told = repr((sieve, LETTER))
        run_filter(sieve, LETTER, 3)
        self.assertEqual(repr((sieve, LETTER)), told)


if __name__ == "__main__":
    unittest.main()
