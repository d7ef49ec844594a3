"""d5, d6: what a device shows, and -k in the deeds that it says."""

import random
import unittest

from oncemail.device import Device
from oncemail.letters import read_letter
from oncemail.queries import read_query
from oncemail.talk import Listener, say
from tests.chances import Helper
from tests.halls import Hall

LIST = (("0", "ann", "inbox", "lrsiea"), ("1", "ann", "notices", "lrsiea"), ("2", "ann", "sent", "lrsiea"),
        ("3", "ann", "work", "lrsiea"), ("4", "bo", "play", "lr"), ("5", "bo", "drop", "li"), ("6", "bo", "both", "lrsiea"))


def text_of(name):
    return f"Subject: {name}\n\n"


def letter_of(name):
    return read_letter(text_of(name))


def listed(rows=LIST, following=7):
    return "".join(f"box {' '.join(row)}\n" for row in rows) + f"ok {following}\n"


def own(k, name, *flags, turn=0):
    return ("own", -k, flags, turn, letter_of(name))


def kept(uid, change, name, *flags, turn=4):
    return ("kept", uid, change, flags, turn, letter_of(name))


class Shown(unittest.TestCase):
    """A device with the copies of inbox (a, b with flag x) and of bo's play (c)."""

    def setUp(self):
        self.device = Device("ann", "pad", 1)
        self.meet("ok 0\n" + listed() + "kept 1 1 - 4 9\nkept 2 2 x 4 9\nok since 3 2\n" + "ok since 1 0\n" * 3 +
                  "kept 1 1 - 4 9\nok since 2 1\nok since 1 0\n" + self.given("a") + self.given("b") + self.given("c") + "ok\n")
        self.assertEqual(self.device.state(), "whole")

    def given(self, name):
        return say(("ok",), text_of(name))

    def meet(self, text):
        """A meeting that is cut behind this text, if it is not the whole; what was said."""
        self.device.begin()
        said = self.device.say()
        self.device.hear(text)
        said += self.device.say()
        self.device.leave()
        return said

    def do(self, *deed):
        return self.device.do(deed)

    def inbox(self):
        return self.device.shown(0)

    def names(self):
        return [row[2] for row in self.device.boxes()]


class Boxes(Shown):
    def test_the_list(self):
        rows = tuple((int(row[0]),) + row[1:] for row in LIST)
        self.assertEqual(self.device.boxes(), rows)
        self.assertEqual(self.inbox(), (kept(1, 1, "a"), kept(2, 2, "b", "x")))
        self.assertEqual((self.device.shown(4), self.device.shown(3)), ((kept(1, 1, "c"),), ()))
        for number in (5, 7, 99, -1):
            self.assertIsNone(self.device.shown(number))
            self.assertIsNone(self.device.kept(number))
            self.assertIsNone(self.device.search(number, read_query("all")))

    def test_a_box_with_r_and_no_copy(self):
        device = Device("ann", "pad", 1)
        self.device = device
        self.meet("ok 0\n" + listed())
        self.assertEqual((device.shown(0), device.kept(0), device.shown(5)), ((), None, None))
        self.do("put", 0, (), text_of("p"))
        self.assertEqual(device.shown(0), (own(1, "p"),))

    def test_make(self):
        self.assertEqual(self.do("make", "new"), 1)
        self.assertEqual(self.do("make", "more"), 2)
        self.assertEqual(self.device.boxes()[7:], ((-1, "ann", "new", "lrsiea"), (-2, "ann", "more", "lrsiea")))
        self.assertEqual((self.device.shown(-1), self.device.kept(-1)), ((), None))
        # A name that is there shows nothing; another user's box is another thing.
        for name in ("new", "work", "inbox", "both"):
            self.do("make", name)
        self.assertEqual(self.names()[7:], ["new", "more", "both"])
        # Behind the answer, until the list has the number.
        self.meet("ok 0\nok 7\nok 8\nno there\nno there\nno there\nok 9\n")
        self.assertEqual([row[0] for row in self.device.boxes()[7:]], [-1, -2, -6])
        self.assertIsNone(self.device.shown(7))
        # A list that is not whole changes nothing.
        self.meet("ok 6\n" + listed(LIST + (("7", "ann", "new", "lrsiea"),))[:-2])
        self.assertEqual([row[0] for row in self.device.boxes()[7:]], [-1, -2, -6])
        # Settled by the next list, also if it has not the number.
        self.meet("ok 6\n" + listed(LIST + (("7", "ann", "new", "lrsiea"),), 10))
        self.assertEqual(self.device.boxes()[7:], ((7, "ann", "new", "lrsiea"),))
        self.assertEqual(self.device.unsettled(), ())

    def test_minus_k_and_the_number_mean_a_box(self):
        self.do("make", "new")
        self.do("put", -1, (), text_of("p"))
        self.do("put", 7, (), text_of("q"))
        self.do("rename", -1, "old")
        self.assertEqual(self.device.shown(-1), (own(2, "p"),))
        self.meet("ok 0\nok 7\n")
        # From the answer on the number means it, too.
        self.assertEqual(self.device.shown(-1), (own(2, "p"), own(3, "q")))
        self.assertEqual(self.names()[7:], ["old"])
        self.do("flag", 7, (-2,), "add", ("y",))
        self.do("flag", -1, (-3,), "add", ("z",))
        self.assertEqual(self.device.shown(-1), (own(2, "p", "y"), own(3, "q", "z")))
        # Behind the list, too; settled or not.
        self.meet("ok 1\nok 1\nok 2\nok -\nok 3\nok 4\n" + listed(LIST + (("7", "ann", "old", "lrsiea"),), 8))
        self.assertEqual(self.device.shown(7), (own(2, "p", "y"), own(3, "q", "z")))
        self.do("put", -1, (), text_of("r"))
        self.do("rename", -1, "new")
        self.assertEqual(self.device.shown(7), (own(2, "p", "y"), own(3, "q", "z"), own(7, "r")))
        self.assertEqual(self.names()[7:], ["new"])
        self.assertIsNone(self.device.shown(-1))

    def test_unmake_rename_leave(self):
        self.do("rename", 3, "play")
        self.assertEqual(self.names()[3:5], ["play", "play"])
        self.do("rename", 3, "inbox")
        self.do("rename", 3, "play")
        self.do("rename", 0, "x")
        self.do("rename", 4, "x")
        self.do("rename", 6, "x")
        self.do("rename", 9, "x")
        self.do("rename", 5, "x")
        self.assertEqual(self.names(), ["inbox", "notices", "sent", "play", "play", "drop", "both"])
        for number in (0, 1, 2, 4, 5, 6, 9):
            self.do("unmake", number)
        self.assertEqual(len(self.names()), 7)
        self.do("unmake", 3)
        self.assertEqual([row[0] for row in self.device.boxes()], [0, 1, 2, 4, 5, 6])
        self.assertIsNone(self.device.shown(3))
        for number in (0, 3, 9):
            self.do("leave", number)
        self.assertEqual(len(self.names()), 6)
        self.do("leave", 4)
        self.do("leave", 5)
        self.assertEqual([row[0] for row in self.device.boxes()], [0, 1, 2, 6])
        # A name that is free again.
        self.do("make", "play")
        self.do("unmake", -len(self.device.unsettled()))
        self.assertEqual([row[0] for row in self.device.boxes()], [0, 1, 2, 6])

    def test_what_shows_nothing(self):
        before = (self.device.boxes(), self.inbox())
        for deed in (("grant", 3, "bo", "l"), ("filter", "when all\n  drop\n"), ("send", ("bo@oak",), "From: ann@oak\n\n"),
                     ("back", 1, 1), ("put", 9, (), text_of("p")), ("put", 0, (), "no letter"), ("put", 5, (), text_of("p")),
                     ("flag", 9, (1,), "add", ("y",)), ("flag", 0, (9,), "add", ("y",)), ("take", 0, (9,)), ("take", 5, (1,)),
                     ("copy", 0, (1,), 9), ("copy", 9, (1,), 0), ("move", 0, (1,), 9), ("move", 9, (1,), 0),
                     ("move", 0, (1,), 0), ("copy", 5, (1,), 0), ("copy", 0, (1,), 5), ("copy", 0, (), 3), ("make", "work"),
                     ("take", 0, (-1,)), ("take", 0, ()), ("flag", 0, (-9,), "add", ("y",)), ("leave", 0)):
            self.do(*deed)
        self.assertEqual((self.device.boxes(), self.inbox()), before)
        self.assertEqual(len(self.device.unsettled()), 24)

    def test_what_is_refused_shows_nothing(self):
        self.do("make", "new")
        self.do("put", 0, (), text_of("p"))
        self.do("take", 0, (1,))
        self.do("flag", 0, (2,), "set", ())
        self.do("rename", 3, "y")
        self.do("leave", 4)
        self.do("unmake", 3)
        self.do("move", 0, (2,), 6)
        self.assertEqual(self.inbox(), (own(2, "p"),))
        self.meet("ok 0\n" + "no many\nno full\nno uid\nno uid\nno there\nno none\nno kept\nno rights\n")
        self.assertEqual(self.inbox(), (kept(1, 1, "a"), kept(2, 2, "b", "x")))
        self.assertEqual(self.names(), [row[2] for row in LIST])
        self.assertEqual(self.device.unsettled(), ())


class Records(Shown):
    def test_put(self):
        self.do("put", 0, ("r", "s"), text_of("p"))
        self.do("put", 0, (), text_of("q"))
        two = (kept(1, 1, "a"), kept(2, 2, "b", "x"))
        self.assertEqual(self.inbox(), two + (own(1, "p", "r", "s"), own(2, "q")))
        # Behind the answer it is own until the copy has the uid.
        self.meet("ok 0\nok 3\nok 4\n")
        self.assertEqual(self.inbox(), two + (own(1, "p", "r", "s"), own(2, "q")))
        self.meet("ok 2\n" + listed())
        self.assertEqual(self.inbox(), two + (own(1, "p", "r", "s"), own(2, "q")))
        self.assertEqual(len(self.device.unsettled()), 2)
        self.meet("ok 2\n" + listed() + "kept 3 3 r,s 9 9\nkept 4 4 - 9 9\nok since 5 4\n")
        self.assertEqual(self.inbox(), two + (kept(3, 3, "p", "r", "s", turn=9), kept(4, 4, "q", turn=9)))
        self.assertEqual(self.device.unsettled(), ())

    def test_a_put_that_the_since_does_not_tell(self):
        # Another device has taken it already.
        self.do("put", 0, (), text_of("p"))
        self.meet("ok 0\nok 3\n" + listed() + "gone 3 4\nok since 4 4\n")
        self.assertEqual(len(self.inbox()), 2)

    def test_a_put_without_r_at_the_house(self):
        self.do("put", 4, (), text_of("p"))
        self.meet("ok 0\nok -\n")
        self.assertEqual(self.device.shown(4), (kept(1, 1, "c"), own(1, "p")))
        self.do("flag", 4, (-1,), "add", ("y",))
        self.assertEqual(self.device.shown(4)[1], own(1, "p", "y"))
        self.meet("ok 1\nok -\n" + listed(LIST[:4] + (("4", "bo", "play", "li"),) + LIST[5:]))
        self.assertIsNone(self.device.shown(4))
        self.assertEqual(self.device.unsettled(), ())

    def test_flag(self):
        self.do("flag", 0, (1, 2), "add", ("y",))
        self.assertEqual(self.inbox(), (kept(1, 1, "a", "y"), kept(2, 2, "b", "x", "y")))
        self.do("flag", 0, (2, 9), "drop", ("x",))
        self.do("flag", 0, (1,), "set", tuple("abcdefghij"))
        self.do("flag", 0, (1,), "add", ("k",))
        # The number of flags is not asked; the change is that of the copy.
        self.assertEqual(self.inbox(), (kept(1, 1, "a", *"abcdefghijk"), kept(2, 2, "b", "y")))
        self.do("put", 0, (), text_of("p"))
        self.do("flag", 0, (-5, 1), "set", ("m",))
        self.assertEqual(self.inbox()[2:], (own(5, "p", "m"),))
        # Rights are not asked.
        self.do("flag", 4, (1,), "set", ("m",))
        self.assertEqual(self.device.shown(4), (kept(1, 1, "c", "m"),))
        self.meet("ok 0\nok 3\nok 4\nno many\n")
        self.assertEqual(self.inbox()[0], kept(1, 1, "a", "m"))

    def test_minus_k_and_the_uid_mean_a_record(self):
        self.do("put", 0, (), text_of("p"))
        self.do("flag", 0, (3,), "add", ("no",))
        self.do("flag", 0, (-1,), "add", ("y",))
        self.assertEqual(self.inbox()[2], own(1, "p", "y"))
        self.meet("ok 0\nok 3\n")
        self.assertEqual(self.inbox()[2], own(1, "p", "no", "y"))
        # What two of them mean counts once.
        self.do("copy", 0, (-1, 3), 3)
        self.assertEqual(self.device.shown(3), (own(4, "p", "no", "y"),))
        # When the copy has it, and when the put is settled, -k still means it.
        self.meet("ok 1\nno uid\nok 4\nok 1\n" + listed() + "kept 3 4 y 9 9\nok since 4 4\n")
        self.assertEqual(self.inbox()[2], kept(3, 4, "p", "y", turn=9))
        self.assertEqual([row[0] for row in self.device.unsettled()], [4])
        self.do("flag", 0, (-1,), "set", ("z",))
        self.assertEqual(self.inbox()[2], kept(3, 4, "p", "z", turn=9))
        self.do("take", 0, (-1, 3))
        self.assertEqual(len(self.inbox()), 2)
        # In another box it means nothing.
        self.do("take", 4, (-1,))
        self.assertEqual(len(self.device.shown(4)), 1)

    def test_take(self):
        self.do("take", 0, (1, 9))
        self.assertEqual(self.inbox(), (kept(2, 2, "b", "x"),))
        self.do("put", 0, (), text_of("p"))
        self.do("take", 0, (-2,))
        self.assertEqual(self.inbox(), (kept(2, 2, "b", "x"),))
        self.do("take", 0, (2,))
        self.assertEqual(self.inbox(), ())
        self.meet("ok 0\nok 3\nok 3\n")
        self.assertEqual(self.inbox(), ())
        self.meet("ok 2\nok 4\nno uid\n")
        self.assertEqual(self.inbox(), (kept(2, 2, "b", "x"),))

    def test_copy(self):
        self.do("copy", 0, (1, 2, 9), 3)
        self.assertEqual(self.device.shown(3), (own(1, "a", turn=4), own(1, "b", "x", turn=4)))
        self.assertEqual(len(self.inbox()), 2)
        # No other deed means them, but they are as the records were then.
        self.do("flag", 3, (-1, 1, 2), "set", ("z",))
        self.do("take", 3, (-1,))
        self.do("flag", 0, (1,), "set", ("z",))
        self.assertEqual(self.device.shown(3), (own(1, "a", turn=4), own(1, "b", "x", turn=4)))
        self.do("put", 3, (), text_of("p"))
        self.do("copy", 3, (-5,), 3)
        self.assertEqual(self.device.shown(3)[2:], (own(5, "p"), own(6, "p")))
        # Until it is settled: both boxes were asked behind the answer.
        self.meet("ok 0\nok 1:2\nno uid\nno uid\nok 3\nok 3\nok 4\n" + listed() + "kept 1 3 z 4 9\nok since 3 3\n")
        self.assertEqual([record[1] for record in self.device.shown(3)], [-1, -1, -5, -6])
        self.meet("ok 6\n" + listed() + "ok since 3 3\n" + "ok since 1 0\n" * 2 + "kept 1 1 - 4 9\nkept 2 1 x 4 9\n"
                  "kept 3 2 - 5 9\nkept 4 3 - 5 9\nok since 5 3\n")
        self.assertEqual(self.device.unsettled(), ())
        # Shown when their letters are there; the put's letter is its own.
        self.assertEqual([record[1] for record in self.device.shown(3)], [3])
        self.meet("ok 6\n" + listed() + "ok since 3 3\n" + "ok since 1 0\n" * 2 + "ok since 5 3\nok since 2 1\nok since 1 0\n" +
                  self.given("a") + self.given("b") + self.given("p") + "ok\n")
        self.assertEqual(self.device.state(), "whole")
        self.assertEqual([record[1] for record in self.device.shown(3)], [1, 2, 3, 4])

    def test_a_copy_into_a_box_without_r(self):
        self.do("copy", 0, (1,), 5)
        self.assertEqual((len(self.inbox()), self.device.shown(5)), (2, None))

    def test_move(self):
        self.do("put", 0, ("w",), text_of("p"))
        self.do("move", 0, (-1, 2), 6)
        self.assertEqual(self.inbox(), (kept(1, 1, "a"),))
        self.assertEqual(self.device.shown(6), (own(2, "b", "x", turn=4), own(2, "p", "w")))
        # Into a box without r it is taken out all the same.
        self.do("move", 0, (1,), 5)
        self.assertEqual(self.inbox(), ())
        # The copy shows the first box without its records already, and not the second one: nothing.
        self.meet("ok 0\nok 3\nok 1:2\nno full\n" + listed() + "gone 2 5\ngone 3 5\nok since 4 5\n")
        self.assertEqual((self.inbox(), self.device.shown(6)), ((kept(1, 1, "a"),), ()))
        self.assertEqual([row[0] for row in self.device.unsettled()], [2])
        self.meet("ok 3\n" + listed() + "ok since 4 5\n" + "ok since 1 0\n" * 3 + "ok since 2 1\nkept 1 1 x 4 9\nkept 2 1 w 9 9\n"
                  "ok since 3 1\n" + self.given("b") + self.given("p") + "ok\n")
        self.assertEqual(self.device.shown(6), (kept(1, 1, "b", "x"), kept(2, 1, "p", "w", turn=9)))
        self.assertEqual(self.device.unsettled(), ())

    def test_in_a_box_that_is_made(self):
        self.do("make", "new")
        self.do("put", -1, (), text_of("p"))
        self.do("copy", -1, (-2,), 0)
        self.do("move", 0, (1,), -1)
        self.do("move", -1, (-2,), 3)
        self.assertEqual(self.device.shown(-1), (own(4, "a", turn=4),))
        self.assertEqual(self.inbox(), (kept(2, 2, "b", "x"), own(3, "p")))
        self.assertEqual(self.device.shown(3), (own(5, "p"),))
        self.do("unmake", -1)
        self.assertIsNone(self.device.shown(-1))
        self.do("put", -1, (), text_of("q"))
        self.assertIsNone(self.device.shown(-1))

    def test_settled_by_a_list_without_the_box_or_without_r(self):
        for rows in (LIST[:3] + LIST[4:], LIST[:3] + (("3", "bo", "work", "li"),) + LIST[4:]):
            self.setUp()
            for deed in (("put", 3, (), text_of("p")), ("flag", 3, (1,), "add", ()), ("take", 3, ()), ("copy", 3, (), 3),
                         ("move", 3, (), 0), ("copy", 0, (), 3)):
                self.do(*deed)
            self.meet("ok 0\nok 1\nok 1\nok 1\nok -\nok -\nok -\n" + listed(rows))
            self.assertEqual([row[0] for row in self.device.unsettled()], [5, 6])
            self.meet("ok 6\n" + listed(rows) + "ok since 3 2\n")
            self.assertEqual(self.device.unsettled(), ())

    def test_settled_by_a_since_behind_the_answer(self):
        self.do("take", 0, (1,))
        self.device.begin()
        self.device.hear("ok 0\n")
        self.do("flag", 0, (2,), "add", ("y",))
        self.device.hear("ok 3\n" + listed() + "gone 1 3\nok since 3 3\n")
        # The deed that waits is not settled by it.
        self.assertEqual([row[0] for row in self.device.unsettled()], [2])
        self.assertEqual(self.inbox(), (kept(2, 2, "b", "x", "y"),))

    def test_each_kind_is_settled_in_its_way(self):
        deeds = (("make", "m"), ("unmake", 3), ("rename", 3, "x"), ("grant", 3, "bo", "l"), ("leave", 4), ("put", 0, (), text_of("p")),
                 ("flag", 0, (1,), "add", ()), ("copy", 0, (1,), 6), ("move", 0, (1,), 6), ("take", 0, (1,)),
                 ("filter", ""), ("send", (), ""), ("back", 1, 1))
        for deed in deeds:
            for answer in ("no none", "ok 1:2" if deed[0] in ("copy", "move") else "ok 9"):
                self.setUp()
                self.do(*deed)
                self.meet(f"ok 0\n{answer}\n")
                by_answer = answer[:2] == "no" or deed[0] in ("filter", "send", "back")
                self.assertEqual(self.device.unsettled() == (), by_answer, deed)
                self.assertEqual(len(self.device.answers()), 1)
                self.meet("ok 1\n" + listed())
                by_list = by_answer or deed[0] in ("make", "unmake", "rename", "grant", "leave")
                self.assertEqual(self.device.unsettled() == (), by_list, deed)
                self.meet("ok 1\n" + listed() + "ok since 3 2\n")
                by_since = by_list or deed[0] in ("put", "flag", "take")
                self.assertEqual(self.device.unsettled() == (), by_since, deed)
                self.meet("ok 1\n" + listed() + "ok since 3 2\n" + "ok since 1 0\n" * 3 + "ok since 2 1\nok since 1 0\n")
                self.assertEqual(self.device.unsettled(), (), deed)

    def test_search(self):
        self.do("put", 0, ("x",), "Id: m1\nSubject: p\n\n")
        self.do("put", 0, (), "Re: m1\n\nlamp\n")
        self.do("copy", 0, (-1, 1), 0)
        for query, wanted in (("all", (1, 2, -1, -2, -3, -3)), ("flag x", (2, -1, -3)), ("subject a", (1, -3)),
                              ("thread m1", (-1, -2, -3)), ("since 10000", (-1, -2, -3, -3)), ("since 5", (-1, -2, -3, -3)),
                              ("uid 999999999", (-1,)), ("uid 999999998", (-2,)), ("uid 999999997", (-3, -3)), ("uid 1-2", (1, 2)),
                              ("text lamp", (-2,)), ("not all", ())):
            self.assertEqual(self.device.search(0, read_query(query)), wanted, query)
        self.assertIsNone(self.device.search(5, read_query("all")))
        self.assertEqual(self.device.search(3, read_query("all")), ())


class Said(Shown):
    def said(self):
        """The words of the deeds that are said in a meeting."""
        text = self.meet(f"ok {len(self.device.answers())}\n")
        return [" ".join(words) for words, _ in Listener(20000).hear(text) if words[0] == "do"]

    def test_not_answered_when_it_is_said(self):
        self.do("make", "new")
        self.do("put", -1, (), text_of("p"))
        self.do("flag", -1, (-2, 5), "add", ("x",))
        self.do("copy", -1, (-2,), -1)
        self.assertEqual(self.said(), ["do 1 make new", "do 2 put -1 -", "do 3 flag -1 -2,5 add x", "do 4 copy -1 -2 -1"])

    def test_answered(self):
        self.do("make", "new")
        self.do("put", -1, (), text_of("p"))
        self.do("put", 0, (), text_of("q"))
        self.do("copy", 0, (1,), 3)
        self.do("make", "new")
        self.meet("ok 0\nok 7\nok 4\nok 3\nok 9\nno there\n")
        for deed in (("flag", -1, (-2,), "add", ("x",)), ("flag", 7, (-2, 4), "add", ()), ("flag", 0, (-3, -2), "add", ()),
                     ("take", 3, (-4,)), ("copy", 0, (-3,), -1), ("move", -1, (-3, -2), -5), ("rename", -5, "y"),
                     ("unmake", -3), ("grant", -1, "bo", ""), ("leave", -99), ("put", -1, (), text_of("r")),
                     ("take", -1, (-2, 3, 5))):
            self.do(*deed)
        self.assertEqual(self.said(), [
            "do 6 flag 7 4 add x", "do 7 flag 7 4 add -", "do 8 flag 0 -2,3 add -", "do 9 take 3 -4", "do 10 copy 0 3 7",
            "do 11 move 7 -3,4 -5", "do 12 rename -5 y", "do 13 unmake -3", "do 14 grant 7 bo -", "do 15 leave -99",
            "do 16 put 7 -", "do 17 take 7 3:5"])

    def test_answers_that_gave_none(self):
        self.do("put", 5, (), text_of("p"))
        self.do("filter", "")
        self.meet("ok 0\nok -\nok -\n")
        self.do("take", 5, (-1,))
        self.do("leave", -2)
        self.assertEqual(self.said(), ["do 3 take 5 -1", "do 4 leave -2"])
        self.assertEqual(self.device.answers()[0], (1, ("ok", None)))

    def test_settled_and_forgotten_deeds_are_meant(self):
        self.do("make", "new")
        self.do("put", 0, (), text_of("p"))
        self.meet("ok 0\nok 7\nok 3\n" + listed(LIST + (("7", "ann", "new", "lrsiea"),)) + "kept 3 3 - 9 9\nok since 4 3\n")
        self.assertEqual(self.device.unsettled(), ())
        self.device.forget(9)
        self.do("copy", 0, (-2,), -1)
        text = self.meet("ok 2\n")
        self.assertIn("do 3 copy 0 3 7\n", text)

    def test_a_line_that_would_be_too_long(self):
        for n in range(90):
            self.do("put", 0, (), text_of("p"))
        uids = range(100000000, 100000180, 2)
        self.meet("ok 0\n" + "".join(f"ok {uid}\n" for uid in uids) + listed() +
                  "".join(f"kept {uid} 9 - 9 9\n" for uid in uids) + "ok since 999999999 9\n")
        more = tuple(range(1, 270, 2))
        self.do("take", 0, tuple(range(-90, 0)) + tuple(range(1000, 1520, 2)))
        text = self.meet("ok 90\n")
        self.assertLessEqual(max(map(len, text.split("\n"))), 2000)
        self.assertIn("do 91 take 0 -90,-89", text)
        self.assertEqual(len(more), 135)


class Chance(unittest.TestCase, Helper):
    """With one device and all rights, what is shown is what the house then has."""

    def run_one(self, seed, copies, cuts):
        chance = random.Random(seed)
        hall = Hall()
        device = Device("ann", "pad", 1)
        self.meet(hall, device)
        refused = 0
        for _ in range(25):
            for _ in range(chance.randrange(0, 6)):
                if len(device.unsettled()) < 100:
                    deed = self.any_deed(chance, device, copies)
                    device.do(deed)
            before = self.told(device)
            for _ in range(chance.randrange(0, 3) if cuts else 0):
                self.meet(hall, device, chance)
                if not [one for one in device.answers() if one[1][0] == "no"]:
                    self.assertEqual(self.told(device), before)
            self.meet(hall, device)
            self.assertEqual(device.state(), "whole")
            self.assertEqual(self.told(device), self.hall_told(hall))
            if not [one for one in device.answers() if one[1][0] == "no"]:
                self.assertEqual(self.told(device), before)
            else:
                refused += 1
            device.forget(10 ** 6)
            self.assertEqual(device.unsettled(), ())
        return refused

    def test_whole_meetings(self):
        refused = sum(self.run_one(seed, ("copy", "move", "copy", "move"), False) for seed in range(25))
        self.assertLess(refused, 25 * 20)

    def test_meetings_that_are_cut(self):
        refused = sum(self.run_one(seed, (), True) for seed in range(40))
        self.assertLess(refused, 40 * 20)


if __name__ == "__main__":
    unittest.main()
