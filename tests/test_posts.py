"""h8, h9, k6: what waits between houses."""

import unittest

from oncemail.talk import say
from tests.halls import Hall, commands, entry, give, long_mail, mail

NAME = ("name", "oak", "ann", "pad", 1, 1)


class Offering(unittest.TestCase):
    def setUp(self):
        self.hall = Hall()
        self.hall.hello("a", "ann")
        self.number = 0

    def send(self, addresses):
        self.number += 1
        self.assertEqual(self.hall.send("a", self.number, addresses, mail()), "ok -")

    def rows(self):
        """House, number, turn, offered and wanted back of what waits."""
        return [row[:5] for row in self.hall.house.waiting()]

    def given(self, number, name, told, text=None):
        words = ("give", str(number), *name.split(), "ann@oak", told, told, "0")
        return say(words, mail() if text is None else text)

    def test_numbers_by_house(self):
        self.send("eve@elm,di@yew,al@elm")
        self.send("di@yew")
        self.assertEqual(self.rows(), [("elm", 0, 2, False, False), ("elm", 1, 2, False, False),
                                       ("yew", 0, 2, False, False), ("yew", 1, 3, False, False)])

    def test_the_first_turn_of_a_line(self):
        self.send("eve@elm")
        self.hall.open("p", who="elm")
        self.hall.open("q", who="yew")
        told = self.hall.turn()
        self.assertEqual(told, {"p": "low 0\n" + self.given(0, "oak ann pad 1 1", "eve@elm"), "q": "low 0\n"})
        self.assertEqual(self.hall.new, (("offer", 3, "elm", 0),))
        self.assertEqual(self.rows(), [("elm", 0, 2, True, False)])
        # Nothing is said again on the open line.
        self.assertEqual(self.hall.turn(), {})
        self.hall.house.detach("p")
        self.send("al@elm")
        self.hall.open("p", who="elm")
        told = self.hall.turn()
        self.assertEqual(told, {"p": "low 0\nask 0\n" + self.given(1, "oak ann pad 1 2", "al@elm")})
        self.hall.again()

    def test_a_later_turn(self):
        self.hall.open("p", who="elm")
        self.assertEqual(self.hall.turn(), {"p": "low 0\n"})
        told = self.hall.turn(a=say(("do", "1", "send", "eve@elm,al@elm"), mail()))
        self.number = 1
        self.assertEqual(told["p"], self.given(0, "oak ann pad 1 1", "eve@elm") +
                         self.given(1, "oak ann pad 1 1", "al@elm"))
        self.assertEqual([one[0] for one in self.hall.new], ["deed", "offer", "offer"])
        # took, and a greater low.
        self.assertEqual(self.hall.turn(p="took 1\n"), {})
        self.assertEqual(self.hall.new, (("gone", self.hall.now, "elm", 1),))
        self.assertEqual(self.hall.turn(p="took 0\n"), {"p": "low 2\n"})
        self.assertEqual(self.rows(), [])
        # Heard once more it is nothing; also of numbers that are not there.
        self.assertEqual(self.hall.turn(p="took 0\nhad 0\nnot 0\ntook 7\nhad 7\nnot 7\n"), {})
        self.assertEqual(self.hall.new, ())
        self.assertEqual(self.hall.turn(a=say(("do", "2", "send", "eve@elm"), mail()))["p"],
                         self.given(2, "oak ann pad 1 2", "eve@elm"))
        self.hall.again()

    def test_answers_come_ahead_of_low(self):
        self.send("eve@elm")
        self.hall.open("p", who="elm")
        self.hall.turn()
        told = self.hall.turn(p="ask 5\ntook 0\nlow 0\nask 6\n" + give(0, "bo@oak", mail("eve@elm")))
        self.assertEqual(told, {"p": "not 5\nnot 6\ntook 0\nlow 1\n"})
        self.assertEqual([one[0] for one in self.hall.new], ["gone", "came"])

    def test_not_is_said_again_by_number(self):
        self.send("eve@elm,al@elm,x@elm")
        self.hall.open("p", who="elm")
        self.hall.turn()
        self.hall.house.detach("p")
        self.hall.open("p", who="elm")
        self.assertEqual(self.hall.turn(), {"p": "low 0\nask 0\nask 1\nask 2\n"})
        told = self.hall.turn(p="not 2\nhad 1\nnot 0\n", a=say(("do", "2", "send", "y@elm"), mail()))
        self.assertEqual(told["p"], self.given(0, "oak ann pad 1 1", "eve@elm") +
                         self.given(2, "oak ann pad 1 1", "x@elm") + self.given(3, "oak ann pad 1 2", "y@elm"))
        self.assertEqual([one[:1] + one[2:] for one in self.hall.new[1:]],
                         [("gone", "elm", 1), ("offer", "elm", 3)])
        self.assertEqual(self.rows(), [("elm", 0, 2, True, False), ("elm", 2, 2, True, False), ("elm", 3, 5, True, False)])
        # Said again in that turn only.
        self.assertEqual(self.hall.turn(), {})
        # And what was heard to be not there and then to be taken is gone.
        self.assertEqual(self.hall.turn(p="not 0\ntook 0\n")["p"], "low 2\n")
        self.hall.again()

    def test_not_offered_yet(self):
        self.hall.open("p", who="elm")
        self.hall.turn()
        # In the turn in which it begins to wait it is not offered when this is heard.
        told = self.hall.turn(a=say(("do", "1", "send", "eve@elm"), mail()), p="took 0\nhad 0\nnot 0\n")
        self.assertEqual([one[0] for one in self.hall.new], ["deed", "offer"])
        self.assertEqual(told["p"], self.given(0, "oak ann pad 1 1", "eve@elm"))

    def test_notes(self):
        self.hall.open("p", who="elm")
        self.hall.turn(p="low 0\n" + give(0, "zoe@oak", mail("eve@elm"), told="them@fir"))
        self.assertEqual(self.rows(), [("elm", 0, 2, True, False)])
        self.hall.house.detach("p")
        self.hall.open("p", who="elm")
        self.assertEqual(self.hall.turn(), {"p": "low 0\nask 0\n"})
        note = "note 0 elm eve pad 1 1 eve@elm them@fir unknown\n"
        self.assertEqual(self.hall.turn(p="not 0\n"), {"p": note})
        self.assertEqual(self.hall.turn(turn=500, p="not 0\n"), {"p": note})
        self.assertEqual(self.hall.turn(p="had 0\n"), {"p": "low 1\n"})
        self.hall.again()

    def test_what_is_given_with_its_trail(self):
        hall = Hall(groups=(("all", ("eve@elm", "bo@oak")),))
        hall.hello("a", "ann")
        hall.hello("b", "bo")
        hall.do("b", 1, "filter", "when all\n  forward di@yew\n")
        hall.send("a", 1, "all@oak", mail())
        hall.open("p", who="elm")
        hall.open("q", who="yew")
        told = hall.turn()
        self.assertEqual(commands(told["p"])[1], (
            ("give", "0", "oak", "ann", "pad", "1", "1", "ann@oak", "all@oak", "eve@elm", "1"), "all@oak\n" + mail()))
        self.assertEqual(commands(told["q"])[1], (
            ("give", "0", "oak", "ann", "pad", "1", "1", "bo@oak", "di@yew", "di@yew", "2"),
            "all@oak\nbo@oak\n" + mail()))


class Taking(unittest.TestCase):
    def setUp(self):
        self.hall = Hall()
        self.hall.open("p", who="elm")
        self.hall.turn(p="low 0\n")

    def test_once_and_several_times(self):
        hall = self.hall
        text = give(4, "bo@oak", mail("eve@elm"))
        self.assertEqual(hall.turn(p=text), {"p": "took 4\n"})
        self.assertEqual(hall.new, (("came", 2, "elm", 4, entry("bo@oak", mail("eve@elm"))),))
        other = give(4, "cy@oak", mail("eve@elm"), name="elm eve pad 1 9")
        self.assertEqual(hall.turn(p=text + other + "note 4 elm eve pad 1 1 bo@oak x@elm full\n"),
                         {"p": "took 4\n" * 3})
        self.assertEqual(hall.new, ())
        self.assertEqual((len(hall.letters("bo", 0)), len(hall.letters("cy", 0)), hall.notices("bo")), (1, 0, []))
        # Also on another line, and in the same turn.
        hall.house.detach("p")
        hall.open("p", who="elm")
        self.assertEqual(hall.turn(p=text + give(3, "bo@oak", mail("eve@elm"), name="elm eve pad 1 2") * 2)["p"],
                         "took 4\ntook 3\ntook 3\nlow 0\n")
        self.assertEqual(len(hall.letters("bo", 0)), 2)
        hall.again()

    def test_ask(self):
        hall = self.hall
        hall.turn(p=give(4, "bo@oak", mail("eve@elm")))
        self.assertEqual(hall.turn(p="ask 4\nask 3\nask 5\n"), {"p": "had 4\nnot 3\nnot 5\n"})
        hall.turn(p="low 4\n")
        self.assertEqual(hall.turn(p="ask 4\nask 3\nask 5\n"), {"p": "had 4\nhad 3\nnot 5\n"})

    def test_low(self):
        hall = self.hall
        hall.turn(p="".join(give(n, "bo@oak", mail("eve@elm"), name=f"elm eve pad 1 {n + 1}") for n in (0, 1, 3)))
        self.assertEqual(hall.turn(p="low 0\n"), {})
        self.assertEqual(hall.new, ())
        self.assertEqual(hall.turn(p="low 2\nlow 2\nlow 1\n"), {})
        self.assertEqual(hall.new, (("low", hall.now, "elm", 2),))
        self.assertEqual(hall.turn(p=give(1, "bo@oak", mail("eve@elm")) + give(2, "bo@oak", mail("eve@elm"))),
                         {"p": "took 1\ntook 2\n"})
        self.assertEqual([one[:4] for one in hall.new], [("came", hall.now, "elm", 2)])
        self.assertEqual(hall.turn(p="low 10\n"), {})
        self.assertEqual(hall.turn(p="ask 9\nask 10\n"), {"p": "had 9\nnot 10\n"})
        # By house.
        hall.open("q", who="yew")
        self.assertEqual(hall.turn(q="ask 9\n"), {"q": "not 9\nlow 0\n"})
        hall.again()

    def test_the_numbers_taken_are_forgotten_below_low(self):
        one, other = self.hall, Hall()
        other.open("p", who="elm")
        other.turn(p="low 0\n")
        text = "".join(give(n, "bo@oak", mail("eve@elm"), name=f"elm eve pad 1 {n + 1}") for n in range(5))
        one.turn(p=text)
        other.turn(p=text)
        one.turn(p="low 5\n")
        other.turn(p="low 5\n")
        self.assertEqual(one.house.short(), other.house.short())
        self.assertNotIn("(0 1 2 3 4)", one.house.short())


class GivenUp(unittest.TestCase):
    def setUp(self):
        self.hall = Hall()
        self.hall.hello("a", "ann")
        self.hall.turn(turn=10, a=say(("do", "1", "send", "eve@elm,di@yew"), mail()))

    def waits(self):
        return [(row[0], row[1]) for row in self.hall.house.waiting()]

    def test_99_and_100_turns(self):
        self.hall.turn(turn=109)
        self.assertEqual(self.waits(), [("elm", 0), ("yew", 0)])
        self.assertEqual(self.hall.new, ())
        self.hall.turn(turn=110)
        self.assertEqual(self.waits(), [])
        self.assertEqual(self.hall.new, (("up", 110, "elm", 0), ("up", 110, "yew", 0)))
        self.assertEqual(self.hall.notices("ann"), [("eve@elm", "unreached", "letter oak ann pad 1 1"),
                                                    ("di@yew", "unreached", "letter oak ann pad 1 1")])
        self.assertEqual([row[4] for row in self.hall.house.fates("ann")], ["unreached"] * 2)
        self.hall.again()

    def test_what_is_offered_is_not_given_up(self):
        self.hall.open("p", who="elm")
        self.hall.turn(turn=50)
        self.hall.house.detach("p")
        self.hall.turn(turn=300)
        self.assertEqual(self.waits(), [("elm", 0)])
        self.hall.open("p", who="elm")
        self.assertEqual(self.hall.turn(turn=301), {"p": "low 0\nask 0\n"})
        # At not it ends, as it has waited long; low goes on.
        self.assertEqual(self.hall.turn(turn=302, p="not 0\n"), {"p": "low 1\n"})
        self.assertEqual(self.hall.new, (("up", 302, "elm", 0),))
        self.assertEqual(self.hall.notices("ann")[-1], ("eve@elm", "unreached", "letter oak ann pad 1 1"))
        self.hall.again()

    def test_not_heard_at_99_and_100(self):
        for turn, up in ((109, False), (110, True)):
            self.setUp()
            self.hall.open("p", who="elm")
            self.hall.turn(turn=50)
            told = self.hall.turn(turn=turn, p="not 0\n")
            self.assertEqual("up" in [one[0] for one in self.hall.new if one[2] == "elm"], up)
            self.assertEqual(told["p"][:4], "low " if up else "give")

    def test_had_ends_it_though_it_has_waited_long(self):
        self.hall.open("p", who="elm")
        self.hall.turn(turn=50)
        self.hall.turn(turn=200, p="had 0\n")
        self.assertIn(("gone", 200, "elm", 0), self.hall.new)
        self.assertEqual([one[0] for one in self.hall.notices("ann")], ["di@yew"])

    def test_notices_are_never_given_up(self):
        self.hall.open("p", who="elm")
        self.hall.turn(turn=20, p="low 0\n" + give(0, "zoe@oak", mail("eve@elm")))
        self.hall.house.detach("p")
        self.hall.open("q", who="yew")
        self.hall.turn(turn=21, q="low 0\n" + give(0, "zoe@oak", mail("di@yew"), teller="eve@elm"))
        self.hall.turn(turn=9000)
        self.assertEqual([row[5][0] for row in self.hall.house.waiting() if not row[3]], ["notice"])
        self.hall.open("p", who="elm")
        told = self.hall.turn()
        self.assertEqual([words[:2] for words, _ in commands(told["p"])], [
            ("low", "0"), ("ask", "0"), ("ask", "1"), ("note", "2")])
        told = self.hall.turn(p="not 1\n")
        self.assertEqual(commands(told["p"])[0][0][:2], ("note", "1"))

    def test_of_a_forwarding_user_elsewhere(self):
        hall = Hall()
        hall.open("p", who="elm")
        hall.hello("b", "bo")
        hall.do("b", 1, "filter", "when all\n  forward di@yew\n")
        hall.turn(p="low 0\n" + give(0, "bo@oak", mail("eve@elm")))
        since = hall.now
        hall.turn(turn=since + 100)
        # Bo is told, not eve.
        self.assertEqual(hall.notices("bo"), [("di@yew", "unreached", "letter elm eve pad 1 1")])
        self.assertEqual(hall.house.waiting(), ())


class Back(unittest.TestCase):
    def setUp(self):
        self.hall = Hall()
        self.hall.hello("a", "ann")
        self.hall.hello("b", "bo")

    def test_what_is_offered_and_what_is_not(self):
        hall = self.hall
        hall.send("a", 1, "eve@elm,bo@oak,di@yew,al@yew,zoe@oak", mail())
        hall.open("p", who="elm")
        hall.turn()
        self.assertEqual(hall.do("a", 2, "back 1 1"), "ok 2")
        self.assertEqual([one[0] for one in hall.new], ["deed"])
        self.assertEqual([row[:2] + row[3:5] for row in hall.house.waiting()], [("elm", 0, True, True)])
        self.assertEqual(hall.notices("ann")[1:], [("di@yew", "withdrawn", "letter oak ann pad 1 1"),
                                                   ("al@yew", "withdrawn", "letter oak ann pad 1 1")])
        self.assertEqual(hall.do("a", 3, "back 1 1"), "ok 0")
        # Heard to be there it is gone, and nothing is told.
        other = hall.again()[0]
        hall.turn(p="took 0\n")
        self.assertEqual((hall.house.waiting(), len(hall.notices("ann"))), ((), 3))
        self.assertEqual(hall.house.fates("ann")[0][4], "over")
        # Heard not to be there it ends by withdrawn.
        other.attach("p", "elm")
        other.work(50)
        other.hear("p", "not 0\n")
        self.assertIn('"up" 51 "elm" 0', other.work(51))
        self.assertEqual(other.fates("ann")[0][4], "withdrawn")
        self.assertEqual(other.say(), (("p", "low 0\nask 0\nlow 1\n"),))
        hall.again()

    def test_wanted_back_is_ahead_of_unreached(self):
        hall = self.hall
        hall.send("a", 1, "eve@elm", mail())
        hall.open("p", who="elm")
        hall.turn()
        hall.do("a", 2, "back 1 1")
        hall.turn(turn=400, p="not 0\n")
        self.assertEqual(hall.notices("ann")[0][1], "withdrawn")
        hall.again()

    def test_whose_letters(self):
        hall = self.hall
        hall.send("a", 1, "eve@elm", mail())
        hall.send("b", 1, "eve@elm", mail("bo@oak"))
        hall.hello("c", "ann", "air")
        self.assertEqual(hall.do("c", 1, "back 1 1"), "no none")
        self.assertEqual(hall.do("a", 2, "back 2 1"), "no none")
        self.assertEqual(hall.do("a", 3, "back 1 2"), "no none")
        self.assertEqual(hall.do("a", 4, "back 1 9"), "no none")
        self.assertEqual(len(hall.house.waiting()), 2)
        # A greater life of the device wants back what a smaller one sent.
        hall.hello("d", "ann", life=5)
        self.assertEqual(hall.do("d", 1, "back 1 1"), "ok 1")
        self.assertEqual([row[5][2] for row in hall.house.waiting()], ["bo@oak"])
        self.assertEqual(hall.do("d", 2, "back 1 1"), "ok 0")
        hall.again()

    def test_only_what_he_has_sent_himself(self):
        hall = self.hall
        hall.do("b", 1, "filter", "when all\n  forward di@yew\n")
        hall.send("a", 1, "bo@oak", mail())
        self.assertEqual(hall.do("a", 2, "back 1 1"), "ok 0")
        self.assertEqual(len(hall.house.waiting()), 1)
        # By a group the teller is he.
        hall = Hall(groups=(("all", ("eve@elm", "di@yew")),))
        hall.hello("a", "ann")
        hall.send("a", 1, "all@oak", mail())
        self.assertEqual(hall.do("a", 2, "back 1 1"), "ok 2")
        self.assertEqual(hall.notices("ann"), [("all@oak", "withdrawn", "letter oak ann pad 1 1")])

    def test_a_letter_that_was_refused_is_none(self):
        self.hall.send("a", 1, "eve@elm", mail("bo@oak"))
        self.assertEqual(self.hall.do("a", 2, "back 1 1"), "no none")


class Faults(unittest.TestCase):
    def test_each(self):
        right = give(0, "bo@oak", mail("eve@elm"), trail=("a@elm",))
        note = "note 0 elm eve pad 1 1 bo@oak x@elm full\n"
        head = "give 0 elm eve pad 1 1 eve@elm bo@oak bo@oak"
        wrong = ["hello ann pad 1 0\n", "do 1 make x\n", "boxes\n", "bye\n", "low\n", "low x\n", "low 0 0\n", "low -1\n",
                 "low 1000000000\n", "ask\n", "ask 0 1\n", "took\n", "took 01\n", "had x\n", "not\n", "not 1 2\n",
                 "low 0 {0}\n\n", "take 0\n", "\n", "low  0\n", "low 0 \n", "{0}\n\n", "took 1 {1}\nx\n", "x" * 2001]
        for at, word in ((1, "x"), (2, "Elm"), (2, "elm1"), (3, "Eve"), (4, "pad1"), (4, "padpadpad"), (5, "0"), (6, "0"),
                         (5, "x"), (6, "-1"), (7, "eve"), (7, "eve@elm1"), (8, "Bo@oak"), (8, "@oak"), (9, "bo"),
                         (9, "bo@elm"), (9, "bo@yew"), (10, "x"), (10, "3"), (10, "2"), (10, "999999999"), (0, "gives")):
            words = right.split("\n")[0].split(" ")
            words[at] = word
            wrong.append(" ".join(words) + right[right.index("\n"):])
        for at, word in ((1, "x"), (2, "Elm"), (3, "1"), (4, "P"), (5, "0"), (6, "0"), (7, "bo@elm"), (7, "bo@yew"), (7, "bo"), (7, "Bo@oak"), (8, "X@elm"),
                         (8, "x"), (9, "over"), (9, "waits"), (9, "Full"), (9, "")):
            words = note[:-1].split(" ")
            words[at] = word
            wrong.append(" ".join(words) + "\n")
        wrong += [note[:-1] + " x\n", note[:-1] + " {0}\n\n", " ".join(right.split("\n")[0].split(" ")[:-1]) + "\n",
                  say((*head.split(), "0"), "no letter"), say((*head.split(), "0"), ""), say((*head.split(), "1"), mail()),
                  say((*head.split(), "1"), "a@elm"), say((*head.split(), "1"), "Ann <ann@elm>\n" + mail()),
                  say((*head.split(), "0"), long_mail(20001)), say((*head.split(), "0", "0"), mail()),
                  say(head.split(), mail()), say((*head.split(), "0"), "x" * 30001)]
        for text in wrong:
            hall = Hall()
            hall.hello("a", "ann")
            hall.send("a", 1, "di@elm", mail())
            hall.open("p", who="elm")
            hall.turn()
            before = hall.house.short()
            told = hall.turn(p="ask 5\n" + text + "took 0\n" + give(1, "bo@oak", mail("eve@elm")))
            # What was due ahead is said, then bye; nothing behind it is heard or said.
            self.assertEqual(told, {"p": "not 5\nbye\n"}, text[:99])
            self.assertEqual((hall.new, hall.house.short()), ((), before))
            self.assertEqual(hall.turn(p="took 0\n"), {})
            self.assertNotIn("p", hall.turn(a=say(("do", "2", "send", "di@elm"), mail())))
            self.assertEqual([row[3] for row in hall.house.waiting()], [True, False])
            # A new line goes on.
            hall.house.detach("p")
            hall.open("p", who="elm")
            self.assertEqual(hall.turn()["p"][:12], "low 0\nask 0\n")

    def test_the_greatest_literal(self):
        head = "give 0 elm eve pad 1 1 eve@elm bo@oak bo@oak 0"
        for many, told in ((30000, {"p": "low 0\n"}), (30001, {"p": "bye\n"})):
            hall = Hall()
            hall.open("p", who="elm")
            self.assertEqual(hall.turn(p=head + " {%d}\n" % many), told)

    def test_right_ones(self):
        for text in (give(0, "bo@oak", long_mail(20000), trail=tuple(f"u{n}@elm" for n in range(900))),
                     give(999999999, "all@oak", mail(), teller="x@fir", told="y@elm", name="fir zoe a 999999999 1"),
                     "note 0 fir zoe a 1 1 zoe@oak x@y unreached\n",
                     *[f"note 0 elm eve pad 1 1 bo@oak x@elm {cause}\n" for cause in (
                         "unknown", "group", "nobody", "refused", "full", "unreached", "withdrawn")]):
            hall = Hall()
            hall.open("p", who="elm")
            self.assertEqual(hall.turn(p="low 0\n" + text)["p"][:5], "took ", text[:80])
            hall.again()

    def test_the_text_that_was_given_may_be_written_otherwise(self):
        hall = Hall()
        hall.open("p", who="elm")
        hall.turn(p=give(0, "bo@oak", "subject:  x\n  y"))
        self.assertEqual(hall.letters("bo", 0), [("letter", (("Subject", "x y"),), ("lines", ()))])

    def test_a_line_of_a_device_and_of_a_house_hear_apart(self):
        hall = Hall()
        hall.hello("a", "ann")
        self.assertEqual(hall.ask("a", "low 0\n"), ["bye"])


if __name__ == "__main__":
    unittest.main()
