"""Names, flags, uids, deeds and letters of rights: c2, c7, c8, s5."""

import itertools
import unittest

from oncemail.names import (are_flags, are_uids, completed, is_deed, is_device, is_flag, is_house,
                            is_name)

NO_TEXTS = (True, False, None, 0, 1, -1, 12, (), ("a",), (1,), [], ["a"], ("oak", "elm"), [["a"]])
NO_LETTERS = ("A", "OAK", "oAk", "oaK", "o-k", "o_k", "o k", " oak", "oak ", "oak\n", "\noak", "o\nk",
              "o.k", "o@k", "o:k", "`", "{", "@", "[", "\n", " ", "oak!")


class Case(unittest.TestCase):
    def check(self, call, right, wrong):
        for thing in right:
            with self.subTest(call=call.__name__, thing=thing):
                self.assertIs(call(thing), True)
        for thing in wrong:
            with self.subTest(call=call.__name__, thing=thing):
                self.assertIs(call(thing), False)


class Words(Case):
    def test_house(self):
        right = ("a", "z", "oak", "az", "za", "abcdefgh", "abcdefghi", "mnopqrstuvwx", "z" * 12)
        wrong = ("", "z" * 13, "1", "a1", "1a", "oak7", "9", "a0b") + NO_LETTERS + NO_TEXTS
        self.check(is_house, right, wrong)

    def test_every_small_letter_may_stand_in_a_name(self):
        for letter in "abcdefghijklmnopqrstuvwxyz":
            for call in (is_house, is_name, is_device, is_flag):
                self.check(call, (letter, "x" + letter), ())

    def test_name(self):
        right = ("a", "z", "ann", "a1", "z9", "a0123456789", "abcdefghijkl", "a1b2c3d4e5f6", "x" * 12)
        wrong = ("", "x" * 13, "1", "0", "9", "1a", "0ann", "9z", "a" + "1" * 12) + NO_LETTERS + NO_TEXTS
        self.check(is_name, right, wrong)

    def test_every_digit_may_stand_in_a_name_but_ahead(self):
        for digit in "0123456789":
            self.check(is_name, ("a" + digit, "a" + digit + "b"), (digit, digit + "a"))

    def test_device(self):
        right = ("a", "z", "phone", "abcdefgh", "z" * 8)
        wrong = ("", "z" * 9, "z" * 12, "z" * 13, "a1", "1", "1a", "phone2") + NO_LETTERS + NO_TEXTS
        self.check(is_device, right, wrong)

    def test_flag(self):
        right = ("a", "z", "red", "abcdefgh", "abcdefghi", "abcdefghijkl", "z" * 12)
        wrong = ("", "z" * 13, "a1", "1", "1a", "red2") + NO_LETTERS + NO_TEXTS
        self.check(is_flag, right, wrong)


class Tuples(Case):
    def test_flags(self):
        many = tuple("abcdefghijklmnop")
        right = ((), ("a",), ("a", "b"), ("blue", "red"), ("a", "aa", "ab"), ("z" * 12,), many)
        wrong = (("b", "a"), ("a", "a"), ("a", "b", "b"), ("a", "c", "b"), ("a", "b", "a"), ("red", "blue"),
                 ("",), ("", "a"), ("A",), ("a1",), ("z" * 13,), ("a", 1), (1,), (0,), (True,), (None,),
                 (("a",),), (["a"],), ([],), ["a"], ["a", "b"], [], "a", "", "ab", None, True, False, 0, 1,
                 ("a", None), ("a b",), ("a\n",), ("aa", "a"))
        self.check(are_flags, right, wrong)

    def test_uids(self):
        right = ((), (1,), (1, 2), (3, 7, 900), (-1,), (-2, -1), (-5, -1, 1, 5), (-1, 1), (999999999,),
                 (1000000000,), (-1000000000,), tuple(range(1, 1200)), (2, 10))
        wrong = ((0,), (0, 1), (-1, 0), (-1, 0, 1), (1, 1), (2, 1), (-1, -1), (-1, -2), (1, -1), (1, 3, 2),
                 (1, 2, 2), (1, 2, 1), (True,), (False,), (False, 1), (True, 2), (1, True), (-1, True),
                 (None,), (1, None), ("1",), (1, "2"), ((1,),), ([1],), ([],), (1, (2,)), [1], [1, 2], [],
                 1, 0, -1, True, False, None, "", "1", "12")
        self.check(are_uids, right, wrong)


BOX = ((0, 1, 2, 59, -1, -100, 10 ** 12), (True, False, None, "", "0", "inbox", (), (1,), [1], []))
NAME = (("a", "work", "a1", "z" * 12), (True, None, 0, 1, "", "A", "1a", "z" * 13, "a b", "a-b", ("a",), ["a"]))
LETTERS = (("", "l", "a", "lr", "ri", "lrsiea", "sa"),
           (True, False, None, 0, 1, "rl", "ll", "x", "lrsieaa", "L", "l r", "aeisrl", (), ("l",), ["l"]))
FLAGS = (((), ("red",), ("blue", "red"), tuple("abcdefghij")),
         (True, None, 0, "", "red", [], ["red"], ("red", "blue"), ("a", "a"), ("A",), (1,), (None,), (True,)))
UIDS = (((), (1,), (-1, 4), (-3, -2), (4, 5, 6)),
        (True, None, 0, 1, "", "1", [], [1], (0,), (2, 1), (1, 1), (True,), ("1",), (1, None), ((1,),)))
MODE = (("add", "drop", "set"), (True, None, 0, "", "Add", "adds", "ad", "take", "addrop", ("add",), ["add"], ()))
TEXT = (("", "a", "two\nlines\n", "~ !", "no letter at all"), (True, False, None, 0, 1, (), ("a",), ["a"], []))
TEXTS = (((), ("ann@oak",), ("ann@oak", "ann@oak"), ("",), ("no address", "a\nb"), ("b", "a")),
         (True, None, 0, "", "ann@oak", [], ["ann@oak"], (1,), (None,), (True,), (("ann@oak",),), ("a", 1)))
COUNT = ((1, 2, 10 ** 12), (0, -1, True, False, None, "", "1", (), (1,), [1]))

KINDS = {
    "make": (NAME,),
    "unmake": (BOX,),
    "rename": (BOX, NAME),
    "grant": (BOX, NAME, LETTERS),
    "put": (BOX, FLAGS, TEXT),
    "flag": (BOX, UIDS, MODE, FLAGS),
    "copy": (BOX, UIDS, BOX),
    "move": (BOX, UIDS, BOX),
    "take": (BOX, UIDS),
    "leave": (BOX,),
    "filter": (TEXT,),
    "send": (TEXTS, TEXT),
    "back": (COUNT, COUNT),
}


def plain_deed(kind):
    return (kind,) + tuple(part[0][1] for part in KINDS[kind])


class Deeds(unittest.TestCase):
    def right(self, deed):
        with self.subTest(deed=deed):
            self.assertIs(is_deed(deed), True)

    def wrong(self, deed):
        with self.subTest(deed=deed):
            self.assertIs(is_deed(deed), False)

    def test_each_kind_of_deed_with_each_kind_of_right_part(self):
        for kind, parts in KINDS.items():
            self.right(plain_deed(kind))
            for row in itertools.product(*[right[:3] + right[-1:] for right, _ in parts]):
                self.right((kind,) + row)
            for at, (right, _) in enumerate(parts, 1):
                for part in right:
                    deed = plain_deed(kind)
                    self.right(deed[:at] + (part,) + deed[at + 1:])

    def test_each_part_changed_into_another_kind_of_thing(self):
        for kind, parts in KINDS.items():
            for at, (_, wrong) in enumerate(parts, 1):
                for part in wrong:
                    deed = plain_deed(kind)
                    self.wrong(deed[:at] + (part,) + deed[at + 1:])

    def test_a_part_left_out_or_one_too_many(self):
        for kind in KINDS:
            deed = plain_deed(kind)
            for at in range(len(deed)):
                self.wrong(deed[:at] + deed[at + 1:])
            self.wrong((kind,))
            for more in (None, 0, 1, "", "a", (), deed[-1]):
                self.wrong(deed + (more,))
            self.wrong((kind,) + deed)

    def test_lists_in_the_place_of_tuples(self):
        for kind in KINDS:
            deed = plain_deed(kind)
            self.wrong(list(deed))
            for at, part in enumerate(deed):
                if type(part) is tuple:
                    self.wrong(deed[:at] + (list(part),) + deed[at + 1:])
            self.wrong((deed,))
            self.wrong([deed])

    def test_kinds_that_there_are_not(self):
        for kind in KINDS:
            deed = plain_deed(kind)
            for other in (kind.upper(), kind.title(), kind + " ", " " + kind, kind[:-1], "", None, 1, True,
                          (kind,), [kind]):
                self.wrong((other,) + deed[1:])
        for kind in ("open", "name", "look", "hello"):
            self.wrong((kind,))
            self.wrong((kind, 1))

    def test_things_that_are_no_tuples(self):
        for thing in (None, True, False, 0, 1, "", "make", "leave", (), [], ["leave", 1], ((),), ([],)):
            self.wrong(thing)

    def test_texts_of_deeds_are_of_the_signs_of_texts(self):
        for text in ("a\tb", "50%", "\r\n", "\u00e4"):
            self.wrong(("filter", text))
            self.wrong(("put", 0, (), text))
            self.wrong(("send", (), text))
            self.wrong(("send", (text,), ""))

    def test_what_is_handed_in_stays(self):
        deed = ["flag", 1, [2, 1], "add", ["b", "a"]]
        is_deed(deed)
        are_uids(deed[2])
        are_flags(deed[4])
        self.assertEqual(deed, ["flag", 1, [2, 1], "add", ["b", "a"]])


class Rights(unittest.TestCase):
    def test_all_letters_that_there_are(self):
        count = 0
        for many in range(7):
            for row in itertools.combinations("lrsiea", many):
                wanted = dict.fromkeys(row)
                if "a" in wanted:
                    wanted = dict.fromkeys("lrsiea")
                if "s" in wanted or "e" in wanted:
                    wanted["r"] = None
                if wanted:
                    wanted["l"] = None
                text = "".join(letter for letter in "lrsiea" if letter in wanted)
                with self.subTest(letters=row):
                    self.assertEqual(completed("".join(row)), text)
                count += 1
        self.assertEqual(count, 64)

    def test_some_by_hand(self):
        rows = (("", ""), ("l", "l"), ("r", "lr"), ("s", "lrs"), ("i", "li"), ("e", "lre"), ("a", "lrsiea"),
                ("ie", "lrie"), ("si", "lrsi"), ("se", "lrse"), ("ri", "lri"), ("la", "lrsiea"))
        for letters, whole in rows:
            with self.subTest(letters=letters):
                self.assertEqual(completed(letters), whole)

    def test_what_is_no_text_of_letters_in_order(self):
        for thing in ("rl", "al", "ll", "aa", "lrsieaa", "lsr", "x", "lx", "L", "A", " ", "l ", " l", "l r",
                      "l\n", "-", "lrseia", None, True, False, 0, 1, (), ("l",), ("l", "r"), [], ["l"]):
            with self.subTest(thing=thing):
                self.assertIsNone(completed(thing))


if __name__ == "__main__":
    unittest.main()
