"""h1, h2, h3: houses, turns and lines."""

import unittest

from oncemail.errors import BadHouse, BadLine, BadTurn, MailError
from oncemail.house import House, first_line, house_of
from oncemail.journal import journal_line
from tests.halls import Hall, entry, give, mail

GROUPS = (("all", ("ann@oak", "x@fir")), ("none", ()))


class FirstLine(unittest.TestCase):
    def refused(self, reason, *parts):
        with self.assertRaises(BadHouse) as caught:
            first_line(*parts)
        self.assertEqual(caught.exception.reason, reason)
        self.assertIsInstance(caught.exception, MailError)

    def test_right_ones(self):
        for parts in (("oak", ("ann",), (), ()), ("o", ("a", "b1"), GROUPS, ("elm", "yew")),
                      ("o" * 12, tuple(f"u{n:02}" for n in range(20)), tuple((f"g{n:02}", ()) for n in range(20)),
                       ("a", "b", "c", "d")),
                      ("oak", ("ann",), (("all", tuple(f"u{n}@elm" for n in range(30))),), ())):
            self.assertEqual(first_line(*parts), journal_line(0, ("house", *parts)))
            house, length = house_of(first_line(*parts))
            self.assertIsInstance(house, House)
            self.assertEqual((house.name(), length), (parts[0], len(first_line(*parts))))

    def test_each_reason(self):
        ann = ("ann",)
        for name in ("", "Oak", "oak1", "o" * 13, "o k", 5, None):
            self.refused("name", name, ann, (), ())
        for users in ((), ("Ann",), ("bo", "ann"), ("ann", "ann"), tuple(f"u{n:02}" for n in range(21)), ("1a",),
                      ("a" * 13,), ("",)):
            self.refused("users", "oak", users, (), ())
        for groups in ((("ann", ()),), (("All", ()),), (("b", ()), ("a", ())), (("a", ()), ("a", ())),
                       (("a", ("ann",)),), (("a", ("Ann <ann@oak>",)),), (("a", (" ann@oak",)),),
                       (("a", ("ann@oak", "ann@oak")),), (("a", tuple(f"u{n}@elm" for n in range(31))),),
                       tuple((f"g{n:02}", ()) for n in range(21)), (("a", ("ann@Oak",)),)):
            self.refused("groups", "oak", ann, groups, ())
        for houses in (("oak",), ("elm", "oak"), ("yew", "elm"), ("elm", "elm"), ("Elm",), ("a", "b", "c", "d", "e"),
                       ("elm1",), ("",)):
            self.refused("houses", "oak", ann, (), houses)

    def test_two_at_once(self):
        bad = ("Oak", (), (("A", ()),), ("oak", "elm"))
        right = ("oak", ("ann",), (), ())
        for at, reason in enumerate(("name", "users", "groups", "houses")):
            self.refused(reason, *right[:at], *bad[at:])
            for other in range(at + 1, 4):
                parts = list(right)
                parts[at], parts[other] = bad[at], bad[other]
                self.refused(reason, *parts)


class Made(unittest.TestCase):
    def test_of_no_text(self):
        line = first_line("oak", ("ann",), (), ())
        for text in ("", "x", line[:-1], "1" + line[1:], "0 0 ()\n", "\n" + line, journal_line(0, ("low", 1, "elm", 1))):
            with self.assertRaises(BadHouse) as caught:
                house_of(text)
            self.assertEqual(caught.exception.reason, "journal")

    def test_of_a_text_with_other_signs_behind_it(self):
        hall = Hall()
        hall.hello("a", "ann")
        hall.do("a", 1, "make work")
        for more in ("", "x", "\n", "3 5 ()\n", hall.text, "%", "3"):
            house, length = house_of(hall.text + more)
            self.assertEqual((house.short(), length), (hall.house.short(), len(hall.text)))
        for end in range(len(first_line("oak", ("ann", "bo", "cy"), (), ("elm", "yew"))), len(hall.text)):
            house, length = house_of(hall.text[:end])
            self.assertEqual(hall.text[:length], hall.text[:end].rpartition("\n")[0] + "\n")
            self.assertEqual(house.short(), house_of(hall.text[:length])[0].short())

    def test_a_new_house(self):
        hall = Hall(groups=GROUPS)
        store = hall.house.store()
        self.assertEqual([row[0] for row in store.state()[1]], ["ann", "bo", "cy"])
        self.assertEqual((hall.house.waiting(), hall.house.fates("ann"), hall.house.say()), ((), (), ()))
        hall.again()

    def test_the_store_is_a_branch(self):
        hall = Hall()
        hall.hello("a", "ann")
        before = hall.house.short()
        hall.house.store().do(1, "ann", ("make", "work"), ())
        self.assertEqual(hall.house.short(), before)
        self.assertEqual(hall.do("a", 1, "make work"), "ok 3")


class Lines(unittest.TestCase):
    def refused(self, reason, call, *parts):
        before = self.hall.house.short()
        with self.assertRaises(BadLine) as caught:
            call(*parts)
        self.assertEqual(caught.exception.reason, reason)
        self.assertEqual(self.hall.house.short(), before)

    def setUp(self):
        self.hall = Hall()
        self.house = self.hall.house

    def test_attach(self):
        for mark in ("", "a b", "a\n", " a", "x" * 21):
            self.refused("mark", self.house.attach, mark, "")
            self.refused("mark", self.house.attach, mark, "nobody")
        for who in ("oak", "fir", "Elm", "ann", "elm "):
            self.refused("who", self.house.attach, "a", who)
        self.house.attach("a", "")
        self.house.attach("x" * 20, "")
        self.house.attach("-{1}", "elm")
        for who in ("", "yew", "elm", "fir"):
            self.refused("mark", self.house.attach, "a", who)
        self.refused("who", self.house.attach, "b", "elm")
        self.house.attach("b", "yew")
        self.house.detach("-{1}")
        self.house.attach("c", "elm")

    def test_detach_and_hear(self):
        for call in (lambda mark: self.house.detach(mark), lambda mark: self.house.hear(mark, "bye\n")):
            self.refused("mark", call, "a")
            self.refused("mark", call, "")
            self.house.attach("a", "")
            self.house.detach("a")
            self.refused("mark", call, "a")

    def test_closing_forgets(self):
        self.hall.open("a", "b")
        self.house.hear("a", "hello ann pad 1 0\ndo 1 make work\n")
        self.house.detach("a")
        self.assertEqual(self.hall.turn(), {})
        self.assertEqual(self.hall.new, ())
        # What is to be said is forgotten, what was done is not.
        self.house.hear("b", "hello ann pad 1 0\ndo 1 make work\n")
        self.hall.text += self.house.work(2)
        self.hall.count += 2
        self.house.detach("b")
        self.assertEqual(self.house.say(), ())
        self.house.attach("b", "")
        self.assertEqual(self.hall.turn(turn=3, b="hello ann pad 1 0\n"), {"b": "did 1 ok 3\nok 1\n"})
        # Half a command is forgotten, too, and a fault.
        self.house.hear("b", "\nboxes")
        self.house.detach("b")
        self.house.attach("b", "")
        self.assertEqual(self.hall.turn(b="hello ann pad 1 1\n"), {"b": "ok 1\n"})
        self.hall.again()


class Turns(unittest.TestCase):
    def test_bounds(self):
        hall = Hall()
        hall.open("a")
        for turn in (-1, 10001, -5, 20000):
            hall.house.hear("a", "hello ann pad 1 0\n" if turn == -1 else "")
            with self.assertRaises(BadTurn):
                hall.house.work(turn)
        self.assertEqual(hall.turn(turn=0), {"a": "ok 0\n"})
        self.assertEqual(hall.turn(turn=10000, a="boxes\n")["a"][:3], "box")
        with self.assertRaises(BadTurn):
            hall.house.work(10001)

    def test_turns_that_are_not_greater(self):
        hall = Hall()
        hall.open("a")
        hall.turn(turn=7, a="hello ann pad 1 0\n")
        hall.turn(turn=9)
        before = hall.house.short()
        hall.house.hear("a", "boxes\n")
        for turn in (9, 8, 7, 0):
            with self.assertRaises(BadTurn):
                hall.house.work(turn)
            self.assertEqual(hall.house.say(), ())
        self.assertEqual(hall.house.short(), before)
        self.assertIn("a", hall.turn(turn=10))
        # The turn of the last work is no part of the journal, that of an entry is.
        for house in hall.again():
            with self.assertRaises(BadTurn):
                house.work(7)
            self.assertEqual(house.work(8), "")

    def test_the_order_of_what_is_done(self):
        hall = Hall()
        hall.open("p", who="elm")
        hall.open("b", "a")
        hall.turn(a="hello ann pad 1 0\nwatch 0\n", b="hello bo pad 1 0\n")
        self.assertEqual([one[2] for one in hall.new], ["bo", "ann"])
        # Lines in the order in which they were opened, each line's commands in order.
        told = hall.turn(b="do 1 make x\ndo 2 make y\n",
                         a="do 1 make z\n" + "do 2 send cy@oak,eve@elm {%d}\n%s\n" % (len(mail()), mail()),
                         p="low 0\n" + give(0, "ann@oak", mail("eve@elm")))
        self.assertEqual([one[:1] + one[2:4] for one in hall.new], [
            ("came", "elm", 0), ("deed", "bo", "pad"), ("deed", "bo", "pad"), ("deed", "ann", "pad"),
            ("deed", "ann", "pad"), ("offer", "elm", 0)])
        self.assertEqual(list(told), ["p", "b", "a"])
        self.assertEqual(told["a"], "ok 3\nok -\nnews 0 1\n")
        self.assertEqual(told["p"].split("\n")[0], "took 0")
        self.assertEqual(hall.house.store().records("ann", 0)[0][5], entry("ann@oak", mail("eve@elm"))[6])
        # Giving up comes ahead of what is said to houses, and is seen by news.
        hall.house.detach("p")
        hall.send("a", 3, "eve@elm", mail())
        hall.turn(turn=102, a="do 4 make q\nwatch 1\n")
        hall.open("p", who="elm")
        told = hall.turn(turn=103, a="boxes\n")
        self.assertEqual([one[0] for one in hall.new], ["up"])
        self.assertEqual(told["p"], "low 0\nask 0\n")
        self.assertEqual(told["a"].split("\n")[-2:], ["news 1 1", ""])

    def test_the_lines_go_on_from_the_journal(self):
        hall = Hall()
        hall.hello("a", "ann")
        first = hall.text
        house = hall.again()[0]
        house.attach("a", "")
        house.hear("a", "hello ann pad 1 0\ndo 1 make work\n")
        text = house.work(5)
        self.assertTrue(text.startswith("2 "))
        self.assertEqual(house_of(first + text)[1], len(first + text))
        short = hall.again()[1]
        text = hall.house.short()
        short.attach("a", "")
        short.hear("a", "hello ann pad 1 0\ndo 1 make work\n")
        more = short.work(5)
        self.assertTrue(more.startswith("1 "))
        self.assertEqual(house_of(text + more)[0].short(), house.short())


if __name__ == "__main__":
    unittest.main()
