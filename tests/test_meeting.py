"""d1 to d4: what a device says and hears in a meeting."""

import unittest

from oncemail.device import Device
from oncemail.errors import BadDeed, BadLine, MailError
from oncemail.letters import read_letter
from oncemail.talk import say
from tests.halls import Hall, mail

TEXT = mail()
LETTER = read_letter(TEXT)
LIST = ("box 0 ann inbox lrsiea\nbox 1 ann notices lrsiea\nbox 2 ann sent lrsiea\nbox 3 bo work lr\n"
        "box 4 cy play li\nok 5\n")
SINCES = "since 0 0\nsince 1 0\nsince 2 0\nsince 3 0\n"


def given(text=TEXT):
    return say(("ok",), text)


def started(*texts, device=None):
    """A device whose line was opened and which heard these texts, and what it said last."""
    device = device or Device("ann", "pad", 1)
    device.begin()
    said = device.say()
    for text in texts:
        device.hear(text)
        said = device.say()
    return device, said


def whole(device, *texts):
    """Meets the house that says these texts, up to the end."""
    device.begin()
    for text in texts + ("ok\n",):
        device.hear(text)
    assert device.state() == "whole", device.state()
    device.leave()
    return device


def quiet(*boxes):
    return "".join(f"ok since 1 {change}\n" for change in boxes)


class Calls(unittest.TestCase):
    def test_open_and_closed(self):
        device = Device("ann", "pad", 1)
        self.assertEqual((device.state(), device.say()), ("apart", ""))
        for call, reason in ((device.leave, "closed"), (lambda: device.hear("x"), "closed")):
            with self.assertRaises(BadLine) as caught:
                call()
            self.assertEqual(caught.exception.reason, reason)
        device.begin()
        self.assertEqual(device.state(), "meets")
        with self.assertRaises(BadLine) as caught:
            device.begin()
        self.assertEqual(caught.exception.reason, "open")
        self.assertEqual(device.say(), "hello ann pad 1 0\n")
        self.assertEqual(device.say(), "")
        device.leave()
        self.assertEqual((device.state(), device.say()), ("apart", ""))
        device.begin()
        self.assertEqual(device.say(), "hello ann pad 1 0\n")

    def test_what_is_to_be_said_is_lost_by_closing(self):
        device = Device("ann", "pad", 7)
        device.begin()
        device.leave()
        self.assertEqual(device.say(), "")
        device.begin()
        self.assertEqual(device.say(), "hello ann pad 7 0\n")

    def test_deeds(self):
        device = Device("ann", "pad", 1)
        self.assertEqual([device.do(("make", f"b{n}")) for n in range(3)], [1, 2, 3])
        self.assertEqual(device.waits(), tuple((n + 1, ("make", f"b{n}")) for n in range(3)))
        self.assertEqual(device.unsettled(), tuple((n + 1, ("make", f"b{n}"), None) for n in range(3)))
        self.assertEqual(device.answers(), ())

    def refused(self, device, deed, reason):
        before = device.text()
        with self.assertRaises(BadDeed) as caught:
            device.do(deed)
        self.assertEqual(caught.exception.reason, reason)
        self.assertIsInstance(caught.exception, MailError)
        self.assertEqual(device.text(), before)

    def test_deeds_that_cannot_be_said(self):
        device = Device("ann", "pad", 1)
        most = 2000 - len("do 999999999 flag 0 - set ")
        flags = tuple(sorted(f"{one}{two}{three}" for one in "abcdefgh" for two in "abcdefgh" for three in "abcdefgh"))
        flags = flags[:(most + 1) // 4]
        line = "do 999999999 flag 0 - set " + ",".join(flags)
        fill = ("z" * (3 + 2000 - len(line)),)
        right = ("flag", 0, (), "set", flags[:-1] + fill)
        self.assertEqual(len(say(("do", "999999999", "flag", "0", "-", "set", ",".join(right[4])), None)), 2001)
        longer = ("flag", 0, (), "set", flags[:-1] + (fill[0] + "z",))
        for deed in (longer, None, (), "make", ("make",), ("make", "A"), ("make", 5), ("put", 0, (), "a\tb"), ("back", 0, 1),
                     ("put", 0, (), "x" * 20001), ("filter", "x" * 20001), ("send", (), "x" * 20001),
                     ("take", 0, tuple(range(1, 1002))), ("take", 0, tuple(range(-1001, 0))),
                     ("take", 1000000000, ()), ("take", -1000000000, ()), ("take", 0, (1000000000,)),
                     ("take", 0, (-1000000000,)), ("copy", 0, (), 1000000000), ("back", 1000000000, 1),
                     ("back", 1, 1000000000), ("leave", 10 ** 30), ("take", 0, tuple(range(1, 2000, 2))),
                     ("send", ("x" * 1000, "y" * 1000), ""), ("unmake", True), ("flag", 0, (), "set", ("b", "a"))):
            self.refused(device, deed, "deed")
        for deed in (right, ("put", 0, (), "x" * 20000), ("take", 0, tuple(range(1, 1001))), ("take", 999999999, (999999999,)),
                     ("take", -999999999, (-999999999,)), ("back", 999999999, 999999999), ("send", ("x y", ""), "z"),
                     ("send", ("x" * 1000, "y" * 1000, " "), ""), ("make", "a")):
            device.do(deed)
        self.assertEqual(len(device.waits()), 9)

    def test_the_101st_deed(self):
        device = Device("ann", "pad", 1)
        for n in range(100):
            self.assertEqual(device.do(("filter", "")), n + 1)
        self.refused(device, ("filter", ""), "many")
        self.refused(device, ("make", "A"), "deed")
        # What is settled by its answer makes room.
        device.begin()
        device.hear("ok 0\n" + "ok -\n" + "no text\n")
        self.assertEqual([device.do(("filter", "")) for _ in range(2)], [101, 102])
        self.refused(device, ("filter", ""), "many")

    def test_deeds_that_are_answered_are_settled_later(self):
        device = Device("ann", "pad", 1)
        for n in range(100):
            device.do(("make", f"b{n}"))
        device.begin()
        device.hear("ok 0\n" + "".join(f"ok {n + 3}\n" for n in range(60)))
        self.refused(device, ("make", "x"), "many")
        self.assertEqual((len(device.waits()), len(device.unsettled())), (40, 100))

    def test_answers_and_forget(self):
        device = Device("ann", "pad", 1)
        for deed in (("filter", ""), ("make", "a"), ("take", 0, (1,)), ("copy", 0, (1,), 2)):
            device.do(deed)
        device.begin()
        device.hear("ok 0\nok -\nok 3\nno uid\n")
        self.assertEqual(device.answers(), ((1, ("ok", None)), (2, ("ok", 3)), (3, ("no", "uid"))))
        device.forget(2)
        self.assertEqual(device.answers(), ((3, ("no", "uid")),))
        device.hear("ok 1:3\n")
        self.assertEqual(device.answers(), ((3, ("no", "uid")), (4, ("ok", (1, 2, 3)))))
        device.forget(9)
        self.assertEqual(device.answers(), ())


class Steps(unittest.TestCase):
    def test_step_by_step(self):
        device = Device("ann", "pad", 1)
        device.do(("make", "x"))
        device.do(("put", 0, ("a",), TEXT))
        device, said = started(device=device)
        self.assertEqual(said, "hello ann pad 1 0\n")
        # A deed that is done behind the opening is not said.
        device.do(("make", "late"))
        device.hear("ok 0\n")
        self.assertEqual(device.say(), "do 1 make x\n" + say(("do", "2", "put", "0", "a"), TEXT) + "boxes\n")
        device.hear("ok 5\nok 2\n")
        self.assertEqual(device.say(), "")
        self.assertEqual(device.answers(), ((1, ("ok", 5)), (2, ("ok", 2))))
        device.hear(LIST)
        self.assertEqual(device.say(), SINCES)
        device.hear(f"kept 1 1 - 0 9\nkept 2 2 a 7 {len(TEXT)}\nok since 3 2\n")
        self.assertEqual(device.say(), "")
        device.hear("ok since 1 0\nok since 1 0\nkept 4 3 b,c 5 9\nok all 5 7\n")
        self.assertEqual(device.say(), "letter 0 1\nletter 3 4\n")
        self.assertEqual(device.kept(0), ("copy", 2, (("kept", 1, 1, (), 0, None), ("kept", 2, 2, ("a",), 7, LETTER))))
        device.hear(given())
        self.assertEqual(device.say(), "")
        device.hear(given())
        self.assertEqual(device.say(), "bye\n")
        self.assertEqual(device.state(), "meets")
        device.hear("ok\n")
        self.assertEqual((device.state(), device.say()), ("whole", ""))
        device.leave()
        self.assertEqual(device.state(), "whole")
        self.assertEqual(device.kept(3), ("copy", 7, (("kept", 4, 3, ("b", "c"), 5, LETTER),)))
        self.assertIsNone(device.kept(4))
        self.assertEqual(device.waits(), ((3, ("make", "late")),))
        # The next meeting goes on from there.
        device.begin()
        device.hear("ok 2\n")
        self.assertEqual(device.say(), "hello ann pad 1 2\ndo 3 make late\nboxes\n")
        device.hear("no there\n" + LIST)
        self.assertEqual(device.say(), "since 0 2\nsince 1 0\nsince 2 0\nsince 3 7\n")
        device.hear("kept 1 4 z 0 9\ngone 2 5\nok since 3 5\nok since 1 0\nok since 1 0\nkept 9 8 - 0 1\nok all 10 8\n")
        self.assertEqual(device.say(), "letter 3 9\n")
        device.hear("no uid\n")
        self.assertEqual(device.say(), "bye\n")
        self.assertEqual(device.kept(0), ("copy", 5, (("kept", 1, 4, ("z",), 0, LETTER),)))
        self.assertEqual(device.kept(3), ("copy", 8, ()))

    def test_cut_at_every_sign(self):
        answers = ("did 1 ok 5\nok 1\n", "ok 7\n" + LIST, "kept 1 1 - 0 9\nok since 3 2\nok since 1 0\nok since 1 0\n"
                   "ok since 1 0\n", given(), "ok\n")
        texts = []
        for portions in (answers, "".join(answers)):
            device = Device("ann", "pad", 1)
            device.do(("make", "x"))
            device.do(("take", 0, (9,)))
            device.begin()
            said = device.say()
            for portion in portions:
                device.hear(portion)
                said += device.say()
            self.assertEqual(device.state(), "whole")
            texts.append((said, device.text()))
        device = Device("ann", "pad", 1)
        device.do(("make", "x"))
        device.do(("take", 0, (9,)))
        device.begin()
        device.hear("".join(answers))
        texts.append((device.say(), device.text()))
        self.assertEqual(texts[0], texts[1])
        self.assertEqual(texts[0], texts[2])

    def test_no_box_with_r(self):
        device, said = started("ok 0\n", "box 4 cy play li\nok 5\n")
        self.assertEqual(said, "bye\n")
        device, said = started("ok 0\n", "ok 0\n")
        self.assertEqual(said, "bye\n")

    def test_did_rows(self):
        device = Device("ann", "pad", 1)
        for deed in (("make", "a"), ("copy", 0, (1, 2), 3), ("copy", 0, (), 4), ("take", 0, (1,)), ("leave", 9), ("make", "b")):
            device.do(deed)
        device, said = started("did 1 ok 3\ndid 2 ok 1:2\ndid 3 ok -\ndid 4 ok 9\ndid 5 no none\n", device=device)
        # They count at ok.
        self.assertEqual((said, device.answers(), len(device.waits())), ("", (), 6))
        device.hear("ok 5\n")
        self.assertEqual(device.say(), "do 6 make b\nboxes\n")
        self.assertEqual(device.answers(), ((1, ("ok", 3)), (2, ("ok", (1, 2))), (3, ("ok", None)), (4, ("ok", 9)),
                                            (5, ("no", "none"))))
        self.assertEqual(device.waits(), ((6, ("make", "b")),))

    def test_wrong_did_rows(self):
        for heard in ("did 1 ok 3\nok 2\n", "did 2 ok 3\nok 2\n", "did 1 ok 3\nok 0\n", "ok 1\n", "ok 3\n",
                      "did 1 ok 3\ndid 2 ok 4\ndid 3 ok 5\nok 3\n", "did 2 ok 3\ndid 1 ok 4\nok 2\n",
                      "did 1 ok 3\ndid 1 ok 3\nok 2\n", "did 1 ok 3\ndid 1 ok 3\nok 1\n", "did 1 ok 3 4\nok 1\n",
                      "did 1 yes 3\nok 1\n", "did 1 no what\nok 1\n", "did 1 ok 1,3\nok 1\n", "did 1\nok 1\n", "did\nok 1\n",
                      "did 0 ok 3\nok 0\n", "did x ok 3\nok 1\n"):
            device = Device("ann", "pad", 1)
            device.do(("make", "a"))
            device.do(("make", "b"))
            device, said = started(heard, device=device)
            self.assertEqual((device.state(), said, device.answers()), ("refused", "", ()), heard)
            self.assertEqual(len(device.waits()), 2)

    def test_last_below_heard(self):
        device = Device("ann", "pad", 1)
        device.do(("filter", ""))
        started("ok 0\n", "ok -\n", device=device)
        device.leave()
        device, said = started("ok 0\n", device=device)
        self.assertEqual((device.state(), said), ("refused", ""))
        device.leave()
        device, said = started("ok 1\n", device=device)
        self.assertEqual((device.state(), said), ("meets", "boxes\n"))

    def test_refusals_of_the_house(self):
        for reason in ("none", "name", "many", "order"):
            device, said = started(f"no {reason}\n")
            self.assertEqual((device.state(), said), ("refused", "bye\n"))
            device.hear("ok\nok 0\n")
            self.assertEqual((device.state(), device.say()), ("refused", ""))
            device.leave()
            self.assertEqual(device.state(), "refused")
        device, said = started("ok 0\n", "no none\n")
        self.assertEqual((device.state(), said), ("refused", "bye\n"))

    def test_whatever_else_is_heard(self):
        begun = ("ok 0\n", LIST, quiet(0, 0, 0)[:-1] + "\nkept 1 1 - 0 9\nok since 2 1\n")
        after = {
            0: ("bye\n", "ok\n", "ok x\n", "ok 0 0\n", "hello\n", "no\n", "no what\n", "no none none\n", "ok 0 {0}\n\n", "\n",
                "box 0 ann inbox lr\n", "x" * 2001, " ok 0\n", "{0}\n\n", "ok -1\n"),
            1: ("bye\n", "ok\n", "ok -\n", "box 0 ann inbox\n", "box x ann inbox lr\n", "box 0 Ann inbox lr\n",
                "box 0 ann In lr\n", "box 0 ann inbox rl\n", "kept 1 1 - 0 9\n", "no what\n", "ok 5 {0}\n\n", "news 0 1\n",
                "lost 0\n", "did 1 ok 3\n"),
            2: ("bye\n", "ok\n", "ok 1\n", "ok since 1\n", "ok since x 1\n", "ok until 1 1\n", "kept 1 1 - 0\n",
                "kept 0 1 - 0 9\n", "kept 1 1 B 0 9\n", "kept 1 1 b,a 0 9\n", "kept 1 x - 0 9\n", "gone 1\n", "gone x 1\n",
                "no what\n", "box 0 ann inbox lr\n", "ok since 1 1 {0}\n\n", "news 0 1\n"),
            3: ("bye\n", "ok\n", "ok {1}\nx\n", "ok x {6}\nA: b\n\n\n", "no what\n", "no uid {0}\n\n", "ok since 1 1\n", "news 0 1\n"),
            4: ("bye\n", "ok 0\n", "no none\n", "ok {0}\n\n", "news 0 1\n"),
        }
        for step, texts in after.items():
            for text in texts:
                device, _ = started(*(begun + (given(),))[:step])
                device.hear(text)
                self.assertEqual(device.state(), "refused", (step, text))
                self.assertEqual(device.say(), "", text)
                # Of a meeting that has ended nothing is heard any more.
                kept = device.text()
                device.hear("ok 0\n" + LIST + "ok\n")
                self.assertEqual((device.text(), device.say()), (kept, ""))

    def test_what_was_to_be_said_ahead_of_the_end_is_said(self):
        device = Device("ann", "pad", 1)
        device.begin()
        device.hear("ok 0\nbye\n")
        self.assertEqual((device.state(), device.say()), ("refused", "hello ann pad 1 0\nboxes\n"))

    def test_the_greatest_literal(self):
        for many, state in ((20000, "meets"), (20001, "refused")):
            device, _ = started("ok 0\n", "box 0 ann inbox lr\nok 1\n", "kept 1 1 - 0 9\nok since 2 1\n")
            device.hear("ok {%d}\n" % many)
            self.assertEqual(device.state(), state)

    def test_a_fault_refuses(self):
        device = Device("ann", "pad", 1)
        device.begin()
        device.hear("ok 0\nbox 0 ann inbox lrsiea\n \n")
        self.assertEqual((device.state(), device.boxes()), ("refused", ()))

    def test_answers_of_deeds_that_are_no_answers(self):
        for deed, text in ((("make", "a"), "ok\n"), (("make", "a"), "ok x\n"), (("make", "a"), "ok 1:2\n"),
                           (("make", "a"), "no\n"), (("make", "a"), "no what\n"), (("make", "a"), "ok 1 2\n"),
                           (("copy", 0, (), 1), "ok 2,1\n"), (("copy", 0, (), 1), "ok 0\n"), (("make", "a"), "bye\n"),
                           (("make", "a"), "did 1 ok 3\n")):
            device = Device("ann", "pad", 1)
            device.do(deed)
            started("ok 0\n", text, device=device)
            self.assertEqual((device.state(), device.answers()), ("refused", ()), text)

    def test_a_deed_on_a_box_that_stands_for_nothing_is_settled_by_the_list(self):
        device = Device("ann", "pad", 1)
        device.do(("put", -9, (), TEXT))
        device.do(("copy", 0, (1,), -9))
        device.do(("flag", 0, (-1,), "add", ("x",)))
        started("ok 0\n", "ok 4\nok 1\n", device=device)
        self.assertEqual((len(device.unsettled()), device.boxes()), (3, ()))
        device.hear("no uid\nbox 0 ann inbox lrsiea\nok 3\n")
        self.assertEqual([row[0] for row in device.unsettled()], [2])
        device.hear("ok since 1 0\n")
        self.assertEqual(device.unsettled(), ())

    def test_order_is_an_answer(self):
        device = Device("ann", "pad", 1)
        device.do(("make", "a"))
        started("ok 0\n", "no order\n", device=device)
        self.assertEqual((device.answers(), device.unsettled(), device.state()), (((1, ("no", "order")),), (), "meets"))


class Copies(unittest.TestCase):
    def setUp(self):
        self.device = Device("ann", "pad", 1)
        whole(self.device, "ok 0\n", LIST, "kept 1 1 - 4 9\nkept 2 2 a 4 9\nok since 3 2\n" + quiet(0, 0) +
              "kept 7 1 - 0 9\nok since 8 1\n", given() + given() + given())

    def test_flags_changes_turns_and_gone(self):
        whole(self.device, "ok 0\n", LIST, "kept 2 4 b,c 9 9\nkept 3 3 - 5 9\ngone 1 4\ngone 55 4\nok since 4 4\n" +
              quiet(0, 0, 1), given("A: c\n\n"))
        self.assertEqual(self.device.kept(0), ("copy", 4, (("kept", 2, 4, ("b", "c"), 9, LETTER),
                                                            ("kept", 3, 3, (), 5, read_letter("A: c\n\n")))))

    def test_all(self):
        whole(self.device, "ok 0\n", LIST, "kept 2 9 - 4 9\nok all 4 9\n" + quiet(0, 0, 1))
        self.assertEqual(self.device.kept(0), ("copy", 9, (("kept", 2, 9, (), 4, LETTER),)))

    def test_boxes_that_are_not_in_the_list_or_without_r(self):
        whole(self.device, "ok 0\n", "box 0 ann inbox lrsiea\nbox 3 bo work li\nok 5\n", "ok since 3 2\n")
        self.assertEqual([self.device.kept(number) is None for number in range(5)], [False, True, True, True, True])
        # With r again it is asked from 0, and its letters are asked again.
        self.device.begin()
        self.device.hear("ok 0\n")
        self.device.say()
        self.device.hear(LIST)
        self.assertEqual(self.device.say(), "since 0 2\nsince 1 0\nsince 2 0\nsince 3 0\n")
        self.device.hear("ok since 3 2\n" + quiet(0, 0) + "kept 7 1 - 0 9\nok since 8 1\n")
        self.assertEqual(self.device.say(), "letter 3 7\n")

    def test_since_refused(self):
        for reason in ("none", "rights"):
            self.setUp()
            self.device.begin()
            self.device.hear("ok 0\n" + LIST + "ok since 3 2\nok since 1 0\nok since 1 0\n" + f"no {reason}\n")
            self.assertIsNone(self.device.kept(3))
            self.assertTrue(self.device.say().endswith("since 3 1\nbye\n"))

    def test_letter_refused(self):
        self.device.begin()
        self.device.hear("ok 0\n" + LIST + "kept 3 3 - 5 9\nkept 4 4 - 5 9\nok since 5 4\n" + quiet(0, 0) +
                         "kept 8 2 - 0 9\nok since 9 2\n")
        self.assertTrue(self.device.say().endswith("letter 0 3\nletter 0 4\nletter 3 8\n"))
        self.device.hear("no uid\n")
        self.assertEqual([row[1] for row in self.device.kept(0)[2]], [1, 2, 4])
        self.device.hear("no rights\n")
        self.assertIsNone(self.device.kept(0))
        self.device.hear(given("A: z\n\n"))
        self.assertEqual(self.device.kept(3)[2][1][5], read_letter("A: z\n\n"))
        self.assertEqual(self.device.say(), "bye\n")

    def test_letters_behind_a_copy_that_is_forgotten(self):
        self.device.begin()
        self.device.hear("ok 0\n" + LIST + "kept 3 3 - 5 9\nkept 4 4 - 5 9\nok since 5 4\n" + quiet(0, 0, 1))
        self.device.hear("no none\n" + given())
        self.assertIsNone(self.device.kept(0))
        self.device.hear("ok\n")
        self.assertEqual(self.device.state(), "whole")

    def test_the_letter_of_an_own_put(self):
        self.device.do(("put", 0, ("x",), "A: own\n\n"))
        self.device.do(("put", 3, (), "A: other\n\n"))
        self.device.begin()
        self.device.hear("ok 0\nok 3\nok 8\n" + LIST + "kept 3 3 x 5 9\nok since 4 3\n" + quiet(0, 0) +
                         "kept 8 2 - 6 9\nkept 9 3 - 6 9\nok since 10 3\n")
        self.assertTrue(self.device.say().endswith("since 3 1\nletter 3 9\n"))
        self.assertEqual(self.device.kept(0)[2][2], ("kept", 3, 3, ("x",), 5, read_letter("A: own\n\n")))
        self.assertEqual(self.device.unsettled(), ())

    def test_a_quiet_meeting_is_short(self):
        hall = Hall()
        device = Device("ann", "pad", 1)
        signs = 0
        for n in range(2):
            hall.open("a")
            device.begin()
            signs = 0
            while device.state() == "meets":
                said = device.say()
                told = hall.turn(a=said).get("a", "")
                device.hear(told)
                signs += len(said) + len(told)
            device.leave()
            hall.house.detach("a")
        self.assertEqual(device.state(), "whole")
        self.assertLess(signs, 100 + 110 * 3)


class Cuts(unittest.TestCase):
    def test_at_every_sign(self):
        """What was heard whole stays, the rest is forgotten; the next meeting makes it whole."""
        rows = ("did 1 ok 5\n", "ok 1\n", "ok 7\n", "no uid\n", LIST, "kept 1 1 - 0 9\nok since 3 2\n",
                "kept 4 4 - 0 9\nok since 5 4\n", "ok since 1 0\n", "ok since 1 0\n", given("A: 1\n\n"), given("A: 2\n\n"), "ok\n")
        text = "".join(rows)
        for end in range(len(text) + 1):
            device = Device("ann", "pad", 1)
            for deed in (("make", "x"), ("put", 9, (), TEXT), ("take", 0, (5,))):
                device.do(deed)
            device.begin()
            device.hear(text[:end])
            device.leave()
            heard = 0
            while heard < len(rows) and len("".join(rows[:heard + 1])) <= end:
                heard += 1
            self.assertEqual(device.state(), "whole" if heard == 12 else "apart")
            self.assertEqual(len(device.answers()), max(0, min(3, heard - 1)))
            self.assertEqual(len([row for row in device.boxes() if row[0] >= 0]), 5 if heard > 4 else 0)
            self.assertEqual(device.kept(0) is not None, heard > 5)
            self.assertEqual(device.kept(1) is not None, heard > 6)
            self.assertEqual(device.kept(3) is not None, heard > 8)
            if heard > 5:
                self.assertEqual(device.kept(0)[2][0][5] is not None, heard > 9)
            if heard > 6:
                self.assertEqual(device.kept(1)[2][0][5] is not None, heard > 10)
            device.begin()
            self.assertEqual(device.say(), f"hello ann pad 1 {max(0, min(3, heard - 1))}\n")


if __name__ == "__main__":
    unittest.main()
