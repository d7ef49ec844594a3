"""h4, k5, c10, k7: what a house answers to devices."""

import unittest

from oncemail.letters import read_letter, write_letter
from oncemail.talk import say
from tests.halls import Hall, long_mail, mail


class Hello(unittest.TestCase):
    def setUp(self):
        self.hall = Hall()

    def first(self, text):
        self.hall.open(f"m{self.hall.now}")
        return self.hall.ask(f"m{self.hall.now}", text)

    def test_each_refusal(self):
        for line, reason in (("hello ann Pad 1 0", "name"), ("hello ann pad1 1 0", "name"),
                             ("hello ann padpadpad 1 0", "name"), ("hello zoe pad 1 0", "none"),
                             ("hello Ann pad 1 0", "none"), ("hello zoe Pad 1 0", "name"),
                             ("hello ann pad 1 1", "order"), ("hello ann pad 2 1", "order")):
            self.assertEqual(self.first(line + "\n"), ["no " + reason])
            self.assertEqual(self.hall.new, ())
        # Behind a refusal one may say hello again.
        self.hall.open("x")
        self.assertEqual(self.hall.ask("x", "hello zoe pad 1 0\nhello ann pad 1 0\nboxes\n")[:2], ["no none", "ok 0"])

    def test_the_first_reason_of_several(self):
        for device in ("a", "b", "c", "d"):
            self.first(f"hello ann {device} 2 0\n")
        # With 4 known devices of ann, each reason is due together with those that stand behind it in k5.
        for line, reason in (("hello zoe Pad 1 1", "name"), ("hello zoe Pad 1 0", "name"),
                             ("hello ann Pad 1 1", "name"), ("hello ann Pad 1 0", "name"),
                             ("hello bo Pad 1 1", "name"), ("hello bo Pad 1 0", "name"),
                             ("hello zoe pad 1 1", "none"), ("hello zoe pad 1 0", "none"),
                             ("hello zoe a 1 1", "none"), ("hello zoe a 1 0", "none"),
                             ("hello ann e 1 1", "many"), ("hello ann e 9 1", "many"),
                             ("hello ann e 1 0", "many"),
                             ("hello ann a 1 0", "order"), ("hello ann a 1 1", "order"),
                             ("hello ann a 2 1", "order"), ("hello ann a 3 1", "order"),
                             ("hello bo a 1 1", "order")):
            self.assertEqual(self.first(line + "\n"), ["no " + reason], line)
            self.assertEqual(self.hall.new, (), line)
        self.assertEqual(self.first("hello ann a 2 0\n"), ["ok 0"])
        self.hall.again()

    def test_the_fifth_device(self):
        for device in ("a", "b", "c", "d"):
            self.assertEqual(self.first(f"hello ann {device} 1 0\n"), ["ok 0"])
            self.assertEqual(self.hall.new, (("met", self.hall.now, "ann", device, 1, 0),))
        self.assertEqual(self.first("hello ann e 1 0\n"), ["no many"])
        self.assertEqual(self.hall.new, ())
        self.assertEqual(self.first("hello ann e 9 0\n"), ["no many"])
        self.assertEqual(self.first("hello ann E 9 0\n"), ["no name"])
        self.assertEqual(self.first("hello ann e 9 1\n"), ["no many"])
        self.assertEqual(self.first("hello ann a 2 0\n"), ["ok 0"])
        self.assertEqual(self.first("hello bo e 1 0\n"), ["ok 0"])

    def test_faults(self):
        for line in ("hello ann pad 1", "hello ann pad 1 0 0", "hello", "hello ann pad 0 0", "hello ann pad x 0",
                     "hello ann pad 1 -1", "hello ann pad 01 0", "hello ann pad 1 1000000000", "hello ann pad 1 0 {0}\n",
                     "Hello ann pad 1 0", "boxes", "do 1 make work", "look 0", "watch 0", "fates", "what"):
            self.assertEqual(self.first(line + "\nhello ann pad 1 0\n"), ["bye"], line)
            self.assertEqual(self.hall.new, ())
        self.assertEqual(self.first("hello ann pad 1 0\nhello ann pad 1 0\nboxes\n"), ["ok 0", "bye"])
        self.assertEqual(self.first("bye\nhello ann pad 1 0\n"), ["ok"])
        self.assertEqual(self.first("bye 1\n"), ["bye"])

    def test_met_is_written_if_it_changes_anything(self):
        hall = self.hall
        hall.hello("a", "ann")
        self.assertEqual(hall.new, (("met", 1, "ann", "pad", 1, 0),))
        hall.hello("b", "ann")
        self.assertEqual(hall.new, ())
        hall.do("a", 1, "make x")
        hall.do("a", 2, "make y")
        self.assertEqual(hall.hello("c", "ann"), ["did 1 ok 3", "did 2 ok 4", "ok 2"])
        self.assertEqual(hall.new, ())
        self.assertEqual(hall.hello("d", "ann", heard=1), ["did 2 ok 4", "ok 2"])
        self.assertEqual(hall.new, (("met", hall.now, "ann", "pad", 1, 1),))
        # A smaller HEARD takes no place, and what was forgotten is not told.
        self.assertEqual(hall.hello("e", "ann"), ["did 2 ok 4", "ok 2"])
        self.assertEqual(hall.new, ())
        self.assertEqual(hall.hello("f", "ann", heard=2), ["ok 2"])
        self.assertEqual(hall.hello("g", "ann", heard=3), ["no order"])
        hall.again()

    def test_lives(self):
        hall = self.hall
        hall.hello("a", "ann", life=3)
        hall.do("a", 1, "make x")
        self.assertEqual(hall.hello("b", "ann", life=2), ["no order"])
        self.assertEqual(hall.hello("c", "ann", life=5, heard=1), ["no order"])
        self.assertEqual(hall.hello("d", "ann", life=5), ["ok 0"])
        self.assertEqual(hall.new, (("met", hall.now, "ann", "pad", 5, 0),))
        self.assertEqual(hall.hello("e", "ann", life=3, heard=1), ["no order"])
        # On the line of the smaller life deeds are refused, other commands are not.
        self.assertEqual(hall.do("a", 2, "make y"), "no order")
        self.assertEqual(hall.do("a", 1, "make y"), "no order")
        self.assertEqual(hall.ask("a", "boxes\n")[-1], "ok 4")
        self.assertEqual(hall.do("d", 1, "make y"), "ok 4")
        self.assertEqual(hall.new[0], ("deed", hall.now, "ann", "pad", 5, 1, ("make", "y")))
        self.assertEqual(hall.hello("f", "ann", life=5), ["did 1 ok 4", "ok 1"])
        hall.again()

    def test_did_rows(self):
        hall = self.hall
        hall.hello("a", "ann")
        for number, words, literal, answer in (
                (1, "make work", None, "ok 3"), (2, "put -1 x", mail(), "ok 1"), (3, "put -1 -", mail(), "ok 2"),
                (4, "copy 3 1:2 0", None, "ok 1:2"), (5, "make work", None, "no there"), (6, "leave 3", None, "no kept"),
                (7, "take 3 -2,2", None, "ok 3"), (8, "rename 3 w", None, "ok -"), (9, "copy 0 - 3", None, "ok -"),
                (10, "back 1 1", None, "no none"), (11, "move 0 1 3", None, "ok 3")):
            self.assertEqual(hall.do("a", number, words, literal), answer)
        rows = ["did 1 ok 3", "did 2 ok 1", "did 3 ok 2", "did 4 ok 1:2", "did 5 no there", "did 6 no kept",
                "did 7 ok 3", "did 8 ok -", "did 9 ok -", "did 10 no none", "did 11 ok 3", "ok 11"]
        self.assertEqual(hall.hello("b", "ann"), rows)
        self.assertEqual(hall.hello("c", "ann", heard=4), rows[4:])
        hall.again()


class Deeds(unittest.TestCase):
    def setUp(self):
        self.hall = Hall()
        self.hall.hello("a", "ann")

    def test_numbers(self):
        hall = self.hall
        self.assertEqual(hall.do("a", 0, "make x"), "no order")
        self.assertEqual(hall.do("a", 2, "make x"), "no order")
        self.assertEqual(hall.new, ())
        self.assertEqual(hall.do("a", 1, "make x"), "ok 3")
        self.assertEqual(hall.new, (("deed", hall.now, "ann", "pad", 1, 1, ("make", "x")),))
        # What was done is not done again, whatever it is now.
        self.assertEqual(hall.do("a", 1, "make y"), "ok 3")
        self.assertEqual(hall.new, ())
        self.assertEqual(hall.do("a", 3, "make y"), "no order")
        # A deed that is refused is written, too.
        self.assertEqual(hall.do("a", 2, "make x"), "no there")
        self.assertEqual(hall.new, (("deed", hall.now, "ann", "pad", 1, 2, ("make", "x")),))
        hall.hello("b", "ann", heard=1)
        self.assertEqual(hall.do("a", 1, "make y"), "no order")
        self.assertEqual(hall.do("a", 2, "make y"), "no there")
        self.assertEqual(hall.do("b", 3, "make Y"), "no name")
        self.assertEqual(hall.do("b", 4, "back 1 0"), "no name")
        self.assertEqual(hall.do("a", 999999999, "make y"), "no order")
        hall.again()

    def test_order_is_ahead_of_all(self):
        self.assertEqual(self.hall.do("a", 5, "make X"), "no order")
        self.assertEqual(self.hall.do("a", 5, "put 99 -", "x"), "no order")

    def test_what_minus_k_stands_for(self):
        hall = self.hall
        self.assertEqual(hall.do("a", 1, "make x"), "ok 3")
        self.assertEqual(hall.do("a", 2, "put -1 -", mail()), "ok 1")
        self.assertEqual(hall.do("a", 3, "copy -1 -2 0"), "ok 1")
        self.assertEqual(hall.do("a", 4, "flag 0 -3 add x"), "ok 2")
        self.assertEqual(hall.do("a", 5, "flag -1 -3 add x"), "no uid")
        self.assertEqual(hall.do("a", 6, "put -2 -", mail()), "no none")
        # Of another device of the same user it stands for nothing.
        hall.hello("b", "ann", "pod")
        self.assertEqual(hall.do("b", 1, "rename -1 y"), "no none")
        # Whose answer was heard stands for nothing any more.
        hall.hello("c", "ann", heard=2)
        self.assertEqual(hall.do("c", 7, "rename -1 y"), "no none")
        self.assertEqual(hall.do("c", 8, "take 3 -2"), "no uid")
        self.assertEqual(hall.do("c", 9, "take 0 -3"), "ok 3")
        for house in hall.again():
            house.attach("a", "")
            house.hear("a", "hello ann pad 1 2\ndo 10 take 0 -3\ndo 11 take 3 -2\n")
            house.work(50)
            self.assertEqual(house.say()[0][1].split("\n")[-3:-1], ["no uid", "no uid"])

    def test_faults(self):
        for text in ("do 1\n", "do\n", "do x make x\n", "do -1 make x\n", "do 1 make\n", "do 1 make x y\n", "do 1 mak x\n",
                     "do 1 put 0 -\n", "do 1 make x {0}\n\n", "do 01 make x\n", "do 1 do 1 make x\n", "do 1 boxes\n"):
            hall = Hall()
            hall.hello("a", "ann")
            self.assertEqual(hall.ask("a", "rules\n" + text + "rules\n"), ["ok {0}", "", "bye"], text)
            self.assertEqual(hall.new, ())


class Questions(unittest.TestCase):
    def setUp(self):
        self.hall = Hall()
        self.hall.hello("a", "ann")
        self.hall.hello("b", "bo")

    def test_boxes(self):
        hall = self.hall
        hall.do("a", 1, "make work")
        hall.do("a", 2, "grant 3 bo s")
        hall.do("a", 3, "grant 0 bo i")
        self.assertEqual(hall.ask("b", "boxes\n"), [
            "box 0 bo inbox lrsiea", "box 1 bo notices lrsiea", "box 2 bo sent lrsiea", "box 3 ann work lrs",
            "box 4 ann inbox li", "ok 5"])
        hall.do("a", 4, "unmake 3")
        self.assertEqual(hall.ask("b", "boxes\n")[3:], ["box 4 ann inbox li", "ok 5"])

    def test_look(self):
        hall = self.hall
        text = mail()
        for number in (1, 2, 3, 4):
            hall.do("a", number, "put 0 -", text)
        hall.do("a", 5, "take 0 1:3")
        self.assertEqual(hall.ask("a", "look 0\n"), [f"ok seen 5 5 0 1 {len(text)}"])
        self.assertEqual(hall.ask("a", "look 1\n"), ["ok seen 1 0 0 0 0"])
        hall.do("a", 6, "grant 0 bo i")
        self.assertEqual(hall.ask("b", "look 3\n"), [f"ok room 999 {1000000 - len(text)}"])
        hall.do("a", 7, "grant 0 bo l")
        self.assertEqual(hall.ask("b", "look 3\nlook 4\nlook -1\n"), ["ok there", "no none", "no none"])

    def test_since(self):
        hall = self.hall
        text = mail()
        for number, flags in ((1, "-"), (2, "a,b"), (3, "-")):
            hall.do("a", number, f"put 0 {flags}", text)
        came = [row[4] for row in hall.house.store().records("ann", 0)]
        hall.do("a", 4, "take 0 3")
        rows = [f"kept 1 1 - {came[0]} {len(text)}", f"kept 2 2 a,b {came[1]} {len(text)}"]
        self.assertEqual(hall.ask("a", "since 0 0\n"), rows + ["gone 3 4", "ok since 4 4"])
        self.assertEqual(hall.ask("a", "since 0 1\n"), rows[1:] + ["gone 3 4", "ok since 4 4"])
        self.assertEqual(hall.ask("a", "since 0 4\n"), ["ok since 4 4"])
        self.assertEqual(hall.ask("a", "since 0 5\n"), rows + ["ok all 4 4"])
        hall.do("a", 5, "grant 0 bo i")
        self.assertEqual(hall.ask("b", "since 3 0\nsince 9 0\nsince -1 0\n"), ["no rights", "no none", "no none"])

    def test_letter(self):
        hall = self.hall
        hall.do("a", 1, "put 0 -", "a: b\nFROM:  x\n\n{3}\nbye")
        text = write_letter(read_letter("a: b\nFROM:  x\n\n{3}\nbye"))
        self.assertEqual(hall.turn(a="letter 0 1\nletter 0 2\nletter 9 1\nletter -1 1\nletter 0 0\n")["a"],
                         say(("ok",), text) + "no uid\nno none\nno none\nno uid\n")
        hall.do("a", 2, "grant 0 bo i")
        self.assertEqual(hall.ask("b", "letter 3 1\n"), ["no rights"])

    def test_find(self):
        hall = self.hall
        for number, text in ((1, "Id: m1\nSubject: lamps\n\n"), (2, "Re: m1\n\nx\n"), (3, "Id: m2\nSubject: lamps\n\n"),
                             (4, "Id: m3\nRe: m2\n\n")):
            hall.do("a", number, "put 0 -", text)
        self.assertEqual(hall.ask("a", "find 0 subject lamps\nfind 0 all\nfind 0 not all\nfind 0 thread m1\n"
                                       "find 0 thread m2 or ( uid 1-1 )\n"), ["ok 1,3", "ok 1:4", "ok -", "ok 1:2", "ok 1,3:4"])
        self.assertEqual(hall.ask("a", "find 0 subject\nfind 99 what\nfind -1 what\nfind -1 all\nfind 99 all\n"),
                         ["no text", "no text", "no text", "no none", "no none"])
        hall.do("a", 5, "flag 0 1,3 add x")
        self.assertEqual(hall.ask("a", "find 0 all\nfind 0 flag x\n"), ["ok 1:4", "ok 1,3"])
        hall.do("a", 6, "grant 0 bo i")
        self.assertEqual(hall.ask("b", "find 3 all\nfind 3 what\n"), ["no rights", "no text"])

    def test_threads(self):
        hall = self.hall
        for number, text in ((1, "Id: m1\n\n"), (2, "Re: m1\n\nx\n"), (3, "Id: -\n\n"), (4, "Id: -x\n\n"), (5, "A: b\n\n"),
                             (6, "Id: m1\n\n")):
            hall.do("a", number, "put 0 -", text)
        self.assertEqual(sorted(hall.ask("a", "threads 0\n")), sorted([
            "node 0 1,6 m1", "node 1 2 -", "node 0 3 --", "node 0 4 --x", "node 0 5 -", "ok"]))
        hall.do("a", 7, "flag 0 1:3 add x")
        self.assertEqual(hall.ask("a", "threads 0\n")[:-1], [
            "node 0 1,6 m1", "node 1 2 -", "node 0 3 --", "node 0 4 --x", "node 0 5 -"])
        self.assertEqual(hall.ask("a", "threads 1\nthreads 9\nthreads -1\n"), ["ok", "no none", "no none"])
        hall.do("a", 8, "grant 0 bo i")
        self.assertEqual(hall.ask("b", "threads 3\n"), ["no rights"])

    def test_rules(self):
        hall = self.hall
        self.assertEqual(hall.turn(a="rules\n"), {"a": "ok {0}\n\n"})
        hall.do("a", 1, "filter", "when all\n  drop\n")
        self.assertEqual(hall.turn(a="rules\n", b="rules\n"), {"a": "ok {16}\nwhen all\n  drop\n\n", "b": "ok {0}\n\n"})

    def test_fates(self):
        hall = self.hall
        hall.hello("c", "ann", "air", 4)
        hall.send("a", 1, "bo@oak,zoe@oak,bo@oak", mail())
        hall.send("c", 1, "eve@elm,x@fir", mail())
        self.assertEqual(hall.ask("a", "fates\n"), [
            "fate air 4 1 eve@elm waits", "fate air 4 1 x@fir unknown", "fate pad 1 1 bo@oak over",
            "fate pad 1 1 zoe@oak unknown", "ok"])
        self.assertEqual(hall.ask("b", "fates\n"), ["ok"])
        self.assertEqual(hall.house.fates("ann")[2], ("pad", 1, 1, "bo@oak", "over"))
        self.assertEqual(hall.house.fates("zoe"), ())

    def test_malformed_commands_are_faults(self):
        for text in ("boxes 1\n", "look\n", "look x\n", "look 0 0\n", "look 00\n", "since 0\n", "since 0 x\n",
                     "since 0 -1\n", "since 0 0 0\n", "letter 0\n", "letter 0 -1\n", "letter 0 1 1\n", "find 0\n",
                     "find\n", "find x all\n", "threads\n", "threads 0 0\n", "fates 1\n", "rules x\n", "watch\n",
                     "watch x\n", "watch 0 0\n", "bye x\n", "what\n", "box 0 ann inbox l\n", "ok\n", "low 0\n",
                     "boxes {0}\n\n", "look 0 {1}\nx\n", "find 0 all {0}\n\n", "{0}\n\n", "\n", " \n", "look  0\n",
                     "boxes \n", "letter 0 {x}\n", "x" * 2001):
            hall = Hall()
            hall.hello("a", "ann")
            # What was due ahead of the fault is said, then bye; nothing behind it.
            self.assertEqual(hall.ask("a", "watch 0\nlook 1\n" + text + "look 1\ndo 1 put 0 - {4}\nA:\n\n\n"),
                             ["ok 0", "ok seen 1 0 0 0 0", "bye"], text)
            self.assertEqual(hall.new, ())
            self.assertEqual(hall.turn(a="look 1\n"), {})
            hall.hello("b", "ann", "pod")
            hall.do("b", 1, "put 0 -", mail())
            self.assertEqual(hall.turn(), {})

    def test_the_greatest_literal(self):
        hall = self.hall
        self.assertEqual(hall.do("a", 1, "put 0 -", long_mail(20000)), "ok 1")
        self.assertEqual(hall.ask("a", "do 2 put 0 - {20000}\n"), [])
        self.assertEqual(hall.ask("b", "do 1 put 0 - {20001}\n"), ["bye"])

    def test_bye(self):
        hall = self.hall
        self.assertEqual(hall.ask("a", "watch 0\nrules\nbye\nrules\ndo 1 make x\n\n\n"), ["ok 0", "ok {0}", "", "ok"])
        self.assertEqual(hall.new, ())
        self.assertEqual(hall.turn(a="rules\n"), {})
        hall.hello("c", "ann")
        hall.do("c", 1, "put 0 -", mail())
        self.assertEqual(hall.turn(), {})


class Watching(unittest.TestCase):
    def setUp(self):
        self.hall = Hall()
        self.hall.hello("a", "ann")
        self.hall.hello("b", "bo")
        self.hall.do("a", 1, "make work")
        self.hall.do("a", 2, "grant 3 bo r")

    def test_news_and_lost(self):
        hall = self.hall
        self.assertEqual(hall.ask("b", "watch 3\nwatch 0\nwatch 9\nwatch -1\n"), ["ok 0", "ok 0", "no none", "no none"])
        self.assertEqual(hall.turn(), {})
        put = "put 3 - {%d}\n%s\n" % (len(mail()), mail())
        self.assertEqual(hall.turn(a="do 3 " + put), {"a": "ok 1\n", "b": "news 3 1\n"})
        self.assertEqual(hall.turn(), {})
        # Several changes in a turn are told once, behind the answers, by number.
        self.assertEqual(hall.turn(a="do 4 " + put + "do 5 " + put, b="do 1 put 0 - {5}\nA: b\n\nrules\n"),
                         {"a": "ok 2\nok 3\n", "b": "ok 1\nok {0}\n\nnews 0 1\nnews 3 3\n"})
        self.assertEqual(hall.turn(a="do 6 grant 3 bo i\n"), {"a": "ok -\n", "b": "lost 3\n"})
        self.assertEqual(hall.ask("b", "watch 3\n"), ["no rights"])
        # It is not watched any more.
        self.assertEqual(hall.turn(a="do 7 grant 3 bo r\ndo 8 " + put), {"a": "ok -\nok 4\n"})
        self.assertEqual(hall.ask("b", "watch 3\n"), ["ok 4"])
        self.assertEqual(hall.turn(a="do 9 unmake 3\n"), {"a": "ok -\n", "b": "lost 3\n"})
        self.assertEqual(hall.turn(), {})

    def test_news_are_each_line_s_own(self):
        hall = self.hall
        hall.hello("c", "bo")
        hall.ask("b", "watch 3\n")
        self.assertEqual(hall.turn(c="watch 0\n", a="do 3 put 3 - {4}\nA:\n\n\n"),
                         {"a": "ok 1\n", "b": "news 3 1\n", "c": "ok 0\n"})
        # Watched again, the change is told once more and is no news.
        self.assertEqual(hall.turn(b="watch 3\n"), {"b": "ok 1\n"})
        self.assertEqual(hall.turn(b="watch 3\n", a="do 4 take 3 1\n"), {"a": "ok 2\n", "b": "ok 2\n"})
        # Asked ahead of the change in the same turn, the news come.
        self.assertEqual(hall.turn(a="watch 3\ndo 5 put 3 - {4}\nA:\n\n\n"),
                         {"a": "ok 2\nok 2\nnews 3 3\n", "b": "news 3 3\n"})
        # A deed that changes nothing is no news, nor are watches of the journal.
        self.assertEqual(hall.turn(a="do 6 flag 3 2 drop x\n"), {"a": "ok 3\n"})
        self.assertEqual(hall.new[0][0], "deed")
        hall.again()

    def test_by_letters_that_come(self):
        hall = self.hall
        hall.ask("b", "watch 0\nwatch 1\n")
        told = hall.turn(a=say(("do", "3", "send", "bo@oak,x@fir"), mail()))
        self.assertEqual(told, {"a": "ok -\n", "b": "news 0 1\n"})


class Again(unittest.TestCase):
    def test_a_house_made_of_its_journal_answers_alike(self):
        hall = Hall()
        hall.hello("a", "ann")
        hall.hello("b", "bo")
        for number, words, literal in ((1, "make work", None), (2, "put -1 x,y", mail()), (3, "grant 3 bo lrs", None),
                                       (4, "copy 3 1 0", None), (5, "send bo@oak,zoe@oak", mail()),
                                       (6, "filter", "when all\n  stop\n"), (7, "take 0 1", None)):
            hall.do("a", number, words, literal)
        questions = "boxes\nlook 0\nlook 3\nsince 0 0\nsince 3 0\nletter 3 1\nfind 3 flag x\nthreads 0\nfates\nrules\nwatch 3\n"
        for house in hall.again():
            for user in ("ann", "bo"):
                hall.open("q" + str(hall.now))
                mark = "q" + str(hall.now)
                wanted = hall.ask(mark, f"hello {user} pad 1 0\n" + questions)
                house.attach(mark, "")
                house.hear(mark, f"hello {user} pad 1 0\n" + questions)
                house.work(hall.now)
                self.assertEqual(house.say(), ((mark, "\n".join(wanted) + "\n"),))


if __name__ == "__main__":
    unittest.main()
