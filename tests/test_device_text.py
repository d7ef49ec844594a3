"""d7: the text of a device, at any moment."""

import random
import unittest

from oncemail.device import Device, device_of
from oncemail.plain import read_plain
from tests.chances import Helper
from tests.halls import Hall, mail


def seen(device):
    """All that a device tells."""
    numbers = [row[0] for row in device.boxes()]
    return (device.boxes(), device.waits(), device.unsettled(), device.answers(),
            [(device.kept(number), device.shown(number)) for number in numbers])


class Text(unittest.TestCase):
    def test_a_new_device(self):
        device = Device("ann", "pad", 3)
        again = device_of(device.text())
        self.assertEqual((again.text(), again.state(), seen(again)), (device.text(), "apart", seen(device)))
        again.begin()
        self.assertEqual(again.say(), "hello ann pad 3 0\n")

    def test_it_is_one_line(self):
        device = Device("ann", "pad", 1)
        device.do(("put", 0, (), mail()))
        device.do(("filter", "\"\\\n"))
        self.assertNotIn("\n", device.text())
        read_plain(device.text())

    def test_how_the_last_meeting_ended(self):
        for heard, state in (("", "apart"), ("ok 0\n", "apart"), ("no none\n", "refused"), ("what\n", "refused"),
                             ("ok 0\nok 0\n", "apart"), ("ok 0\nok 0\nok\n", "whole")):
            device = Device("ann", "pad", 1)
            device.begin()
            device.hear(heard)
            while_open = device.text()
            device.leave()
            self.assertEqual(device.state(), state)
            self.assertEqual(device.text(), while_open)
            self.assertEqual(device_of(while_open).state(), state)
            # A meeting that is begun behind it is cut off by the text.
            device.begin()
            self.assertEqual(device_of(device.text()).state(), "apart")

    def test_the_text_changes_nothing(self):
        device = Device("ann", "pad", 1)
        device.do(("make", "x"))
        device.begin()
        device.hear("ok 0\nok 3\nbox 0 ann in")
        device.text()
        device.hear("box lrsiea\nok 4\n")
        self.assertEqual(device.state(), "meets")
        self.assertEqual(device.say(), "hello ann pad 1 0\ndo 1 make x\nboxes\nsince 0 0\n")

    def test_at_every_moment_of_a_meeting(self):
        texts = set()
        chance = random.Random(5)
        hall = Hall()
        device = Device("ann", "pad", 1)
        other = Device("ann", "pod", 1)
        other.do(("put", 0, (), mail()))
        Helper().meet(hall, other)
        for deed in (("make", "w"), ("put", -1, ("a",), mail()), ("put", 0, (), mail()), ("flag", 0, (1,), "add", ("x",)),
                     ("copy", -1, (-2,), 0), ("move", 0, (1,), -1), ("make", "w"), ("send", ("zoe@oak",), mail())):
            device.do(deed)
        hall.open("a")
        device.begin()
        while device.state() == "meets":
            told = hall.turn(a=device.say()).get("a", "")
            at = 0
            while at < len(told):
                step = chance.randrange(1, 9)
                device.hear(told[at:at + step])
                at += step
                text = device.text()
                texts.add(text)
                again = device_of(text)
                self.assertEqual(again.text(), text)
                self.assertEqual(seen(again), seen(device))
        self.assertEqual(device.state(), "whole")
        self.assertGreater(len(texts), 10)
        hall.house.detach("a")
        # Each of them goes on as the device would if its line had been closed then.
        device.leave()
        last = seen(device)
        for text in sorted(texts):
            again = device_of(text)
            copy = Hall()
            copy.house = hall.again()[0]
            copy.text, copy.now, copy.count = hall.text, hall.now, hall.count
            Helper().meet(copy, again)
            self.assertEqual(again.state(), "whole")
            self.assertEqual(seen(again)[0], last[0])
            self.assertEqual(seen(again)[1:4], ((), (), device.answers()))
            self.assertEqual(seen(again)[4], last[4])

    def test_both_go_on_alike(self):
        chance = random.Random(9)
        for seed in range(20):
            hall = Hall()
            device = Device("ann", "pad", 1)
            Helper().meet(hall, device)
            for _ in range(6):
                for _ in range(chance.randrange(0, 5)):
                    device.do(Helper().any_deed(chance, device, ("copy", "move")))
                Helper().meet(hall, device, chance)
                again = device_of(device.text())
                self.assertEqual(again.text(), device.text())
                self.assertEqual(again.state(), device.state())
                self.assertEqual(seen(again), seen(device))
                deed = Helper().any_deed(chance, device, ())
                self.assertEqual(again.do(deed), device.do(deed))
                for one in (device, again):
                    one.begin()
                self.assertEqual(again.say(), device.say())
                for one in (device, again):
                    one.hear(f"ok {len(device.answers())}\n")
                self.assertEqual(again.say(), device.say())
                for one in (device, again):
                    one.leave()
                device.forget(chance.choice((0, 0, 3)))
                device = device_of(device.text())
                device = again if chance.random() < 0.5 and again.text() == device.text() else device


if __name__ == "__main__":
    unittest.main()
