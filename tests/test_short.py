"""h11, h12: short texts, and what is gone."""

import random
import unittest

from oncemail.device import Device
from oncemail.house import house_of
from oncemail.index import Index
from oncemail.journal import read_journal
from oncemail.talk import say
from tests.halls import Hall, give, mail


class Short(unittest.TestCase):
    def busy(self):
        hall = Hall(groups=(("all", ("bo@oak", "eve@elm", "zoe@oak")),))
        hall.hello("a", "ann")
        hall.hello("b", "bo", "pod", 3)
        hall.open("p", who="elm")
        hall.turn(p="low 1\n" + give(2, "bo@oak", mail("eve@elm"), trail=("x@elm",)))
        for number, words, literal in ((1, "make work", None), (2, "put -1 x", mail()), (3, "grant 3 bo lrs", None),
                                       (4, "filter", "when all\n  file work red\n  forward di@yew\n"),
                                       (5, "send all@oak,ann@oak,di@yew", mail()), (6, "take 3 1", None),
                                       (7, "back 1 5", None), (8, "send eve@elm,al@yew", mail()), (9, "make work", None)):
            hall.do("a", number, words, literal)
        hall.hello("c", "ann", heard=3)
        return hall

    def test_the_short_text_is_one_line(self):
        hall = self.busy()
        before = hall.house.short()
        entries, length = read_journal(before)
        self.assertEqual((len(entries), length), (1, len(before)))
        self.assertEqual((entries[0][0], len(entries[0])), ("short", 2))
        self.assertEqual(hall.house.short(), before)
        hall.again()

    def test_both_go_on_alike(self):
        hall = self.busy()
        for house in hall.again():
            other = self.busy().house
            for mark, who in (("a", ""), ("p", "elm"), ("q", "yew")):
                house.attach(mark, who)
                if mark in "ap":
                    other.detach(mark)
                other.attach(mark, who)
            for turn in range(hall.now + 1, hall.now + 5):
                texts = []
                for one in (house, other):
                    if turn == hall.now + 1:
                        one.hear("a", "hello ann pad 1 4\nboxes\nfates\nsince 3 0\n" + say(("do", "10", "send", "eve@elm"), mail()))
                        one.hear("p", "ask 2\nask 3\nlow 0\n")
                    else:
                        one.hear("p", "not 0\nhad 1\n" + give(turn, "ann@oak", mail("eve@elm")))
                    texts.append((one.work(turn).split(" ", 2)[2:], one.say(), one.waiting(), one.fates("ann"), one.short()))
                self.assertEqual(texts[0][1:], texts[1][1:])

    def test_the_same_state_by_two_ways(self):
        one, other = Hall(), Hall()
        # Two users say hello and make boxes in another order; a line that is opened changes nothing.
        for hall, users in ((one, ("ann", "bo")), (other, ("bo", "ann"))):
            for user in users:
                hall.hello(user, user)
            for user in users:
                hall.do(user, 1, "make work")
        other.open("p", who="elm")
        other.open("x")
        self.assertEqual(one.house.short(), other.house.short())
        # What is given and taken back.
        one.turn(ann="do 2 grant 3 bo l\ndo 3 grant 3 bo r\ndo 4 grant 3 bo -\n")
        other.turn(ann="do 2 grant 3 bo lrsi\ndo 3 grant 3 bo -\ndo 4 grant 3 bo -\n")
        self.assertEqual(one.house.short(), other.house.short())

    def test_the_greatest_turn_of_an_entry_is_kept(self):
        hall = Hall()
        self.assertEqual(hall.house.short(), Hall().house.short())
        hall.turn(turn=50)
        self.assertEqual(hall.house.short(), Hall().house.short())
        hall.hello("a", "ann")
        house = house_of(hall.house.short())[0]
        with self.assertRaises(ValueError):
            house.work(51)
        self.assertEqual(house.work(52), "")

    def test_what_was_handed_out_stays(self):
        hall = self.busy()
        held = (hall.house.waiting(), hall.house.fates("ann"), hall.house.store(), hall.house.short())
        shown = (repr(held[0]), repr(held[1]), repr(held[2].state()), held[3])
        hall.turn(p="took 0\nnot 1\n", a=say(("do", "10", "send", "eve@elm"), mail()))
        hall.do("a", 11, "unmake 3")
        self.assertEqual((repr(held[0]), repr(held[1]), repr(held[2].state()), held[3]), shown)


class Gone(unittest.TestCase):
    def test_a_term_that_nobody_keeps(self):
        hall = Hall(groups=(("all", ("bo@oak", "eve@elm")),))
        device = Device("ann", "pad", 1)
        other = Device("bo", "pod", 1)
        text = mail("ann@oak", "zebrafish", "quagga {3} quagga")
        for deed in (("put", 0, (), text), ("send", ("all@oak", "ann@oak", "zoe@oak"), text), ("make", "work"),
                     ("copy", 0, (-1,), -3), ("put", -3, (), text), ("put", 0, (), mail("ann@oak", "kept"))):
            device.do(deed)
        self.meet(hall, device, "a")
        self.meet(hall, other, "b")
        hall.open("p", who="elm")
        hall.turn(p="low 0\n")
        self.assertEqual(len(hall.house.waiting()), 1)
        for words in ("zebrafish", "quagga"):
            for told in (hall.house.short(), hall.text, device.text(), other.text()):
                self.assertIn(words, told)
        # The third one of the inbox has other words.
        device.do(("take", 0, (1, 2)))
        device.do(("take", 2, (1,)))
        device.do(("take", 3, (1, 2)))
        other.do(("take", 0, (1,)))
        hall.turn(p="took 0\n")
        for _ in range(2):
            self.meet(hall, device, "a")
            self.meet(hall, other, "b")
        index = Index()
        for row in hall.house.store().records("ann", 0):
            index.put(row)
        for told in (hall.house.short(), device.text(), other.text(), index.text()):
            self.assertNotIn("zebrafish", told)
            self.assertNotIn("quagga", told)
        self.assertIn("kept", hall.house.short())
        self.assertEqual(len(index.uids()), 1)
        hall.again()

    def test_a_letter_that_waits_is_kept(self):
        hall = Hall()
        hall.hello("a", "ann")
        hall.send("a", 1, "eve@elm", mail("ann@oak", "zebrafish"))
        hall.do("a", 2, "take 2 1")
        self.assertIn("zebrafish", hall.house.short())
        hall.do("a", 3, "back 1 1")
        self.assertNotIn("zebrafish", hall.house.short())
        self.assertIn("withdrawn", hall.house.short())

    def meet(self, hall, device, mark):
        hall.open(mark)
        device.begin()
        for _ in range(12):
            told = hall.turn(**{mark: device.say()})
            device.hear(told.get(mark, ""))
        self.assertEqual(device.state(), "whole")
        device.leave()
        hall.house.detach(mark)


class Chance(unittest.TestCase):
    def test_journals_cut_anywhere(self):
        chance = random.Random(31)
        hall = Short().busy()
        ends = [0]
        for line in hall.text.split("\n")[:-1]:
            ends.append(ends[-1] + len(line) + 1)
        for _ in range(60):
            end = chance.randrange(ends[1], len(hall.text) + 1)
            house, length = house_of(hall.text[:end] + chance.choice(("", "5 ", "x\n")))
            self.assertEqual(length, max(place for place in ends if place <= end))
            self.assertEqual(house_of(house.short())[0].short(), house.short())


if __name__ == "__main__":
    unittest.main()
