"""w1, w2: worlds, their turns and their fates."""

import random
import unittest

from oncemail.errors import BadDeed, BadTurn
from oncemail.house import first_line, house_of
from oncemail.plain import read_plain
from oncemail.world import World, world_of
from tests.halls import mail

HOUSES = (("elm", ("bo", "cy"), ()), ("oak", ("ann",), (("all", ("bo@elm", "ann@oak")),)), ("yew", ("di",), ()))
DEVICES = (("elm", "bo", "pad", 1), ("elm", "bo", "pod", 1), ("oak", "ann", "pad", 4), ("yew", "di", "pad", 1))
ANN = ("oak", "ann", "pad")
BO = ("elm", "bo", "pad")
POD = ("elm", "bo", "pod")


def made():
    return World(HOUSES, DEVICES)


def run(world, *fates, turns=1):
    passed = world.turn(fates)
    for _ in range(turns - 1):
        assert world.turn(()) == ()
    return passed


def send(who, addresses, subject="s"):
    return ("do", *who, ("send", addresses, mail(f"{who[1]}@{who[0]}", subject)))


class Worlds(unittest.TestCase):
    def test_a_new_world(self):
        world = made()
        self.assertEqual((world.now(), world.lines()), (0, ()))
        self.assertEqual(world.journal("oak"), first_line("oak", ("ann",), (("all", ("bo@elm", "ann@oak")),), ("elm", "yew")))
        self.assertEqual(world.journal("elm"), first_line("elm", ("bo", "cy"), (), ("oak", "yew")))
        self.assertEqual((world.waiting("oak"), world.fates("oak", "ann"), world.fates("oak", "zoe")), ((), (), ()))
        self.assertEqual([row[0] for row in world.store("elm").state()[1]], ["bo", "cy"])
        device = world.device(*ANN)
        device.begin()
        self.assertEqual(device.say(), "hello ann pad 4 0\n")

    def test_one_house(self):
        world = World((("oak", ("ann",), ()),), (("oak", "ann", "pad", 1),))
        self.assertEqual(run(world, ("open", ANN, "oak"), send(ANN, ("ann@oak",))), ())
        self.assertEqual(len(world.lines()), 1)

    def test_the_device_itself(self):
        world = made()
        device = world.device(*ANN)
        self.assertIs(world.device(*ANN), device)
        device.do(("make", "work"))
        run(world, ("open", ANN, "oak"), turns=9)
        self.assertEqual(device.answers(), ((1, ("ok", 3)),))
        device.forget(1)
        self.assertEqual(world.device(*ANN).answers(), ())
        self.assertEqual(world.store("oak").number_of("ann", "work"), 3)

    def test_the_turns(self):
        world = made()
        run(world, turns=3)
        self.assertEqual(world.now(), 3)
        world = world_of(made().text().replace('("world" 0', '("world" 9999'))
        self.assertEqual(world.now(), 9999)
        self.assertEqual(run(world, ("open", ANN, "oak")), ())
        before = world.text()
        with self.assertRaises(BadTurn):
            world.turn((("open", "elm", "oak"),))
        self.assertEqual((world.now(), world.text(), len(world.lines())), (10000, before, 1))


class Fates(unittest.TestCase):
    def test_do(self):
        world = made()
        passed = run(world, ("do", *ANN, ("make", "a")), ("do", *ANN, ("make", "A")), ("do", "oak", "ann", "pod", ("make", "a")),
                     ("do", "fir", "ann", "pad", ("make", "a")), ("do", "oak", "bo", "pad", ("make", "a")), ("do", *BO, None),
                     ("do", *ANN), ("do", *ANN, ("make", "b"), 1), ("do", ["oak"], "ann", "pad", ("make", "a")),
                     ("do", *ANN, ("make", "b")))
        self.assertEqual(passed, (1, 2, 3, 4, 5, 6, 7, 8))
        self.assertEqual(world.device(*ANN).waits(), ((1, ("make", "a")), (2, ("make", "b"))))
        many = tuple(("do", *ANN, ("filter", "")) for _ in range(101))
        self.assertEqual(world.turn(many), tuple(range(98, 101)))

    def test_open(self):
        world = made()
        passed = run(world, ("open", "oak", "elm"), ("open", ANN, "oak"), ("open", "elm", BO), ("open", "elm", "oak"),
                     ("open", "oak", "elm"), ("open", "oak", ANN), ("open", BO, "elm"), ("open", "oak", "oak"), ("open", ANN, "elm"),
                     ("open", "elm", ANN), ("open", ANN, ANN), ("open", ANN, BO), ("open", BO, POD), ("open", "oak", "fir"),
                     ("open", "fir", "oak"), ("open", ("oak", "ann", "pod"), "oak"), ("open", ("elm", "cy", "pad"), "elm"),
                     ("open", ("oak", "ann"), "oak"), ("open", ("oak",), "oak"), ("open", (), "oak"), ("open", "oak"),
                     ("open", "oak", "yew", 1), ("open", None, "oak"), ("open", 1, 2), ("open", ["oak"], "elm"),
                     ("open", ANN + (4,), "oak"), ("open", ("oak", "ann", ["pad"]), "oak"), ("open", "yew", "oak"))
        self.assertEqual(passed, tuple(range(3, 27)))
        self.assertEqual(world.lines(), (("oak", "elm"), (ANN, "oak"), ("elm", BO), ("yew", "oak")))

    def test_close(self):
        world = made()
        run(world, ("open", "oak", "elm"), ("open", ANN, "oak"), ("open", "elm", BO), ("open", "oak", "yew"))
        passed = run(world, ("close", "elm", "oak", 0, 0), ("close", "oak", "elm", 5, 5), ("close", ANN, "oak", -1, 0),
                     ("close", ANN, "oak", 0, None), ("close", ANN, "oak", True, 0), ("close", ANN, "oak", 0, False),
                     ("close", ANN, "oak", "1", 0), ("close", ANN, "oak", 1), ("close", ANN, "oak", 1, 1, 1),
                     ("close", ANN, "elm", 0, 0), ("close", "elm", "yew", 0, 0), ("close", "fir", "oak", 0, 0),
                     ("close", POD, "elm", 0, 0), ("close", None, [], 0, 0), ("close", BO, "elm", 10 ** 9, 0), ("close", "oak", "oak", 0, 0))
        self.assertEqual(passed, tuple(range(1, 14)) + (15,))
        self.assertEqual(world.lines(), ((ANN, "oak"), ("oak", "yew")))
        # It may be opened again, also in the turn behind.
        self.assertEqual(run(world, ("open", "elm", "oak"), ("close", "elm", "oak", 1, 1), ("open", "oak", "elm")), (2,))
        self.assertEqual(world.lines(), ((ANN, "oak"), ("oak", "yew")))

    def test_fall(self):
        world = made()
        passed = run(world, ("fall", "oak", 3), ("fall", "oak", None), ("fall", "fir", 1), ("fall", "elm", -1), ("fall", "elm", True),
                     ("fall", "elm", "1"), ("fall", "elm"), ("fall", "elm", 1, 1), ("fall", None, 1), ("fall", ["elm"], 1),
                     ("fall", ANN, 1), ("fall", "elm", None), ("fall", "yew", 0))
        self.assertEqual(passed, tuple(range(1, 11)))
        # In a later turn it may fall again.
        self.assertEqual(run(world, ("fall", "oak", 3)), ())

    def test_what_is_no_fate(self):
        world = made()
        fates = (None, (), 5, "open", ("open",), ("what", 1, 2), [], ["open", "oak", "elm"], (("open",), "oak", "elm"), ("Open", "oak", "elm"),
                 (None,), (True, 1, 2), ("turn",), ("begin", "oak", "elm"), (["do"], 1))
        self.assertEqual(world.turn(fates), tuple(range(len(fates))))
        self.assertEqual((world.now(), world.lines()), (1, ()))


class Turns(unittest.TestCase):
    def test_what_is_said_comes_in_the_next_turn(self):
        world = made()
        device = world.device(*ANN)
        run(world, send(ANN, ("bo@elm",)), ("open", ANN, "oak"), ("open", "oak", "elm"), ("open", BO, "elm"))
        # In turn 1 hello is said; in 2 ok; in 3 do and boxes; in 4 their answers, and the letter is given.
        self.assertEqual(world.journal("oak").count("\n"), 1)
        run(world)
        self.assertEqual(world.journal("oak").count("\n"), 2)
        self.assertEqual((world.now(), device.waits() != ()), (2, True))
        run(world)
        self.assertEqual(world.journal("oak").count("\n"), 2)
        run(world)
        self.assertEqual(world.journal("oak").count("\n"), 4)
        self.assertEqual([row[3] for row in world.waiting("oak")], [True])
        self.assertEqual(world.store("elm").records("bo", 0), ())
        run(world)
        self.assertEqual((device.waits(), len(world.store("elm").records("bo", 0))), ((), 1))
        self.assertEqual([row[4] for row in world.fates("oak", "ann")], ["waits"])
        run(world)
        self.assertEqual([row[4] for row in world.fates("oak", "ann")], ["over"])
        self.assertEqual(world.waiting("oak"), ())
        run(world, turns=6)
        self.assertEqual([world.device(*one).state() for one in (ANN, BO, POD)], ["whole", "whole", "apart"])

    def test_lines_cut_behind_any_sign(self):
        """A letter comes just once, wherever the line is cut, on both sides."""
        said = len("give 0 oak ann pad 4 1 ann@oak bo@elm bo@elm 0 {27}\n") + len(mail()) + 1
        for side, ends in ((0, ("oak", "elm")), (0, ("elm", "oak")), (1, ("oak", "elm")), (1, ("elm", "oak"))):
            for cut in range(0, said + 3 if side == 0 else 9):
                world = made()
                run(world, send(ANN, ("bo@elm",)), ("open", ANN, "oak"), ("open", "oak", "elm"), turns=4 + side)
                many = (999, cut) if (ends[0] == "oak") == (side == 1) else (cut, 999)
                self.assertEqual(run(world, ("close", *ends, *many)), ())
                self.assertEqual(world.lines(), ((ANN, "oak"),))
                come = len(world.store("elm").records("bo", 0))
                self.assertEqual(come, 1 if side == 1 or cut >= said else 0)
                self.assertEqual(len(world.waiting("oak")), 0 if side == 1 and cut >= 7 else 1)
                run(world, ("open", *ends), turns=6)
                self.assertEqual(len(world.store("elm").records("bo", 0)), 1, (side, cut))
                self.assertEqual((world.waiting("oak"), world.waiting("elm")), ((), ()))
                self.assertEqual([row[4] for row in world.fates("oak", "ann")], ["over"])

    def test_the_first_signs_alone_are_handed_over(self):
        for many in range(0, 20):
            world = made()
            run(world, ("open", ANN, "oak"))
            run(world, ("close", "oak", ANN, 0, many))
            # hello ann pad 4 0 and its line feed
            self.assertEqual(world.journal("oak").count("\n"), 2 if many >= 18 else 1, many)
            self.assertEqual(world.device(*ANN).state(), "apart")
            world = made()
            run(world, ("open", ANN, "oak"), turns=2)
            run(world, ("close", "oak", ANN, many, 0))
            self.assertEqual(world.device(*ANN).state(), "apart")
            self.assertEqual(world.lines(), ())
        # All, if there are fewer: what the device heard is kept.
        world = made()
        world.device(*ANN).do(("make", "work"))
        run(world, ("open", ANN, "oak"), turns=4)
        run(world, ("close", ANN, "oak", 0, 10 ** 9))
        self.assertEqual(world.device(*ANN).answers(), ((1, ("ok", 3)),))
        self.assertEqual(len(world.device(*ANN).boxes()), 4)

    def test_what_is_said_in_the_turn_of_closing_is_lost(self):
        world = made()
        world.device(*ANN).do(("make", "work"))
        run(world, ("open", ANN, "oak"), turns=3)
        run(world, ("close", ANN, "oak", 999, 999))
        # The house has done the deed, the device has not heard of it, nor does it ever on this line.
        self.assertEqual(world.store("oak").number_of("ann", "work"), 3)
        self.assertEqual(world.device(*ANN).answers(), ())
        run(world, ("open", ANN, "oak"), turns=3)
        self.assertEqual(world.device(*ANN).answers(), ((1, ("ok", 3)),))

    def test_falls_with_any_beginning(self):
        world = made()
        world.device(*ANN).do(("make", "work"))
        world.device(*ANN).do(("send", ("bo@elm",), mail()))
        run(world, ("open", ANN, "oak"), ("open", "oak", "elm"), ("open", BO, "elm"), turns=3)
        told = world.text()
        other = world_of(told)
        run(other, ("open", ANN, "oak"), ("open", "oak", "elm"), turns=4)
        before = other.journal("oak")
        held = other.text()
        lines = other.lines()
        self.assertEqual(len(lines), 2)
        for many in list(range(0, 300, 3)) + [None, 10 ** 9]:
            world = world_of(told)
            run(world, ("open", ANN, "oak"), ("open", "oak", "elm"), ("open", BO, "elm"), turns=3)
            start = world.journal("oak")
            # In this turn both deeds are done, and the letter is offered.
            self.assertEqual(run(world, ("fall", "oak", many)), ())
            self.assertEqual(world.lines(), ((BO, "elm"),))
            whole = before[len(start):]
            self.assertEqual(whole.count("\n"), 3)
            self.assertTrue(before.startswith(start))
            kept = whole if many is None else whole[:many]
            self.assertEqual(world.journal("oak"), start + kept[:kept.rfind("\n") + 1])
            self.assertEqual(house_of(world.journal("oak"))[1], len(world.journal("oak")))
            # It said nothing, and goes on from there.
            self.assertEqual((world.device(*ANN).answers(), world.device(*ANN).state()), ((), "apart"))
            run(world, ("open", ANN, "oak"), ("open", "oak", "elm"), turns=12)
            self.assertEqual(world.device(*ANN).answers(), ((1, ("ok", 3)), (2, ("ok", None))))
            self.assertEqual(len(world.store("elm").records("bo", 0)), 1)
            self.assertEqual(world.waiting("oak"), ())
        self.assertEqual(other.text(), held)

    def test_a_fall_closes_both_ends(self):
        world = made()
        run(world, ("open", "oak", "elm"), ("open", "oak", "yew"), ("open", "elm", "yew"), ("open", ANN, "oak"), ("open", BO, "elm"))
        run(world, ("fall", "elm", 0), ("close", "oak", "elm", 0, 0))
        self.assertEqual(world.lines(), (("oak", "yew"), (ANN, "oak")))
        self.assertEqual(world.device(*BO).state(), "apart")
        self.assertEqual(run(world, ("open", "oak", "elm"), ("open", BO, "elm")), ())
        run(world, turns=9)
        self.assertEqual(world.device(*BO).state(), "whole")

    def test_the_order_of_lines(self):
        world = made()
        run(world, ("open", BO, "elm"), ("open", "oak", "elm"), ("open", POD, "elm"), ("open", ANN, "oak"))
        run(world, ("close", "oak", "elm", 0, 0), ("open", "yew", "elm"))
        self.assertEqual(world.lines(), ((BO, "elm"), (POD, "elm"), (ANN, "oak"), ("yew", "elm")))


class Texts(unittest.TestCase):
    def busy(self, seed):
        chance = random.Random(seed)
        world = made()
        run(world, ("open", "oak", "elm"), ("open", "elm", "yew"), ("open", ANN, "oak"), ("open", BO, "elm"))
        for n in range(chance.randrange(3, 12)):
            run(world, send(chance.choice((ANN, BO)), ("bo@elm", "di@yew", "ann@oak")), ("do", *BO, ("make", f"b{n}")),
                ("open", ANN, "oak"), ("open", BO, "elm"), ("close", ANN, "oak", chance.randrange(99), chance.randrange(999)))
        return world

    def test_the_text_read_again(self):
        for seed in range(12):
            world = self.busy(seed)
            text = world.text()
            self.assertNotIn("\n", text)
            self.assertEqual(read_plain(text)[0], "world")
            self.assertEqual(world.text(), text)
            again = world_of(text)
            self.assertEqual((again.text(), again.now(), again.lines()), (text, world.now(), ()))
            # It goes on as this one would if all its lines had been closed.
            other = self.busy(seed)
            passed = other.turn(tuple(("close", *ends, 0, 0) for ends in other.lines()))
            self.assertEqual(passed, ())
            self.assertEqual(again.turn(()), ())
            for _ in range(2):
                fates = (("open", "elm", "oak"), ("open", ANN, "oak"), ("open", BO, "elm"), ("open", "elm", "yew"),
                         send(ANN, ("bo@elm", "all@oak")), ("do", *BO, ("take", 0, (1,))))
                self.assertEqual(again.turn(fates), other.turn(fates))
                for _ in range(10):
                    self.assertEqual(again.turn(()), other.turn(()))
                self.assertEqual([again.device(*one).boxes() for one in (ANN, BO)], [other.device(*one).boxes() for one in (ANN, BO)])

    def test_shorten(self):
        for seed in range(6):
            world, other = self.busy(seed), self.busy(seed)
            for name in ("elm", "oak", "yew"):
                ends = [line for line in world.lines() if name in line]
                rest = [line for line in world.lines() if name not in line]
                short = house_of(world.journal(name))[0].short()
                world.shorten(name)
                self.assertEqual(world.journal(name), short)
                self.assertEqual(world.lines(), tuple(rest))
                self.assertTrue(all(world.device(*end).state() != "meets" for line in ends for end in line if isinstance(end, tuple)))
            other.turn(tuple(("close", *ends, 0, 0) for ends in other.lines()))
            world.turn(())
            fates = (("open", "elm", "oak"), ("open", ANN, "oak"), ("open", BO, "elm"), ("open", "elm", "yew"), send(ANN, ("bo@elm", "all@oak")))
            for one in (fates,) + ((),) * 14:
                self.assertEqual(world.turn(one), other.turn(one))
            for name in ("elm", "oak", "yew"):
                self.assertEqual(house_of(world.journal(name))[0].short(), house_of(other.journal(name))[0].short())
                self.assertLessEqual(world.journal(name).count("\n"), other.journal(name).count("\n"))
            self.assertEqual(world.device(*ANN).text(), other.device(*ANN).text())

    def test_what_is_said_is_lost_by_shorten(self):
        world = made()
        world.device(*ANN).do(("make", "work"))
        run(world, ("open", ANN, "oak"), turns=3)
        world.shorten("oak")
        self.assertEqual(world.journal("oak").count("\n"), 1)
        run(world, turns=3)
        self.assertEqual(world.journal("oak").count("\n"), 1)
        self.assertEqual(len(world.device(*ANN).waits()), 1)
        run(world, ("open", ANN, "oak"), turns=5)
        self.assertEqual(world.device(*ANN).waits(), ())
        with self.assertRaises(BadDeed):
            world.device(*ANN).do(("make", "A"))


if __name__ == "__main__":
    unittest.main()
