"""h6, h7: journeys, and what is told of them."""

import unittest

from tests.halls import Hall, entry, give, mail

GROUPS = (("all", ("ann@oak", "bo@oak", "eve@elm")), ("empty", ()), ("outer", ("all@oak", "cy@oak", "x@fir")),
          ("ring", ("ring@oak",)))


class Journeys(unittest.TestCase):
    def setUp(self):
        self.hall = Hall(groups=GROUPS)
        self.numbers = {}
        for user in ("ann", "bo", "cy"):
            self.hall.hello(user, user)
            self.numbers[user] = 0
        self.hall.open("p", who="elm")
        self.hall.turn(p="low 0\n")

    def do(self, user, words, literal=None):
        self.numbers[user] += 1
        return self.hall.do(user, self.numbers[user], words, literal)

    def fill(self, user, box):
        self.hall.fill(user, self.numbers[user] + 1, box)
        self.numbers[user] += 50

    def send(self, user, addresses, subject="s"):
        answer = self.do(user, f"send {addresses}", mail(f"{user}@oak", subject))
        self.assertEqual(answer, "ok -")

    def filter(self, user, *deeds, query="all"):
        text = f"when {query}\n" + "".join(f"  {deed}\n" for deed in deeds)
        self.assertEqual(self.do(user, "filter", text), "ok -")

    def kept(self, user, number=0):
        return [(dict(row[5][1])["Subject"], row[3]) for row in self.hall.house.store().records(user, number)]

    def waiting(self):
        """What waits: teller, told, trail, reader of letters, teller, told, cause of notices."""
        return [row[5][2:-1] if row[5][0] == "letter" else row[5][2:] for row in self.hall.house.waiting()]


class Groups(Journeys):
    def test_members_in_order(self):
        self.send("cy", "all@oak")
        self.assertEqual((self.kept("ann"), self.kept("bo")), ([("s", ())], [("s", ())]))
        self.assertEqual(self.waiting(), [("cy@oak", "all@oak", ("all@oak",), "eve@elm")])
        self.assertEqual(self.hall.notices("cy"), [])

    def test_without_members(self):
        self.send("cy", "empty@oak")
        self.assertEqual(self.hall.notices("cy"), [("empty@oak", "nobody", "letter oak cy pad 1 1")])

    def test_a_group_in_a_group_s_way(self):
        self.send("ann", "outer@oak")
        # Of one teller and told each name is told once, by its first cause.
        self.assertEqual(self.hall.notices("ann"), [("outer@oak", "group", "letter oak ann pad 1 1")])
        self.assertEqual((self.kept("cy"), self.kept("bo")), ([("s", ())], []))
        self.send("bo", "ring@oak")
        self.assertEqual(self.hall.notices("bo"), [("ring@oak", "group", "letter oak bo pad 1 1")])

    def test_a_group_behind_a_forward(self):
        self.filter("bo", "forward all@oak")
        self.send("ann", "bo@oak")
        self.assertEqual(self.hall.notices("bo"), [("all@oak", "group", "letter oak ann pad 1 1")])
        self.assertEqual(self.hall.notices("ann"), [])
        self.filter("bo", "forward empty@oak")
        self.send("ann", "bo@oak")
        self.assertEqual(self.hall.notices("bo")[1], ("empty@oak", "group", "letter oak ann pad 1 2"))

    def test_a_group_that_comes_with_a_trail_from_elsewhere(self):
        self.hall.turn(p=give(0, "all@oak", mail("eve@elm"), trail=("eve@elm",)))
        self.assertEqual(self.waiting(), [("eve@elm", "all@oak", "group")])
        self.hall.turn(p=give(1, "all@oak", mail("eve@elm"), name="elm eve pad 1 2"))
        self.assertEqual(self.kept("ann"), [("s", ())])
        self.assertEqual(self.waiting()[1:], [("eve@elm", "all@oak", ("all@oak",), "eve@elm")])

    def test_a_letter_that_comes_twice_is_filed_once(self):
        self.send("cy", "all@oak,ann@oak,bo@oak,outer@oak")
        self.assertEqual((len(self.kept("ann")), len(self.kept("bo")), len(self.kept("cy"))), (1, 1, 1))


class Unknown(Journeys):
    def test_neither_user_nor_group_nor_house(self):
        self.send("ann", "zoe@oak,ann@fir,bo@oaks")
        self.assertEqual(self.hall.notices("ann"), [(told, "unknown", "letter oak ann pad 1 1") for told in (
            "zoe@oak", "ann@fir", "bo@oaks")])

    def test_the_notice(self):
        self.hall.turn(turn=20)
        self.send("ann", "zoe@oak")
        records = self.hall.house.store().records("ann", 1)
        letter = ("letter", (("From", "zoe@oak"), ("To", "ann@oak"), ("Subject", "not delivered: unknown")),
                  ("lines", ("letter oak ann pad 1 1",)))
        self.assertEqual(records, (("kept", 1, 1, (), 21, letter),))

    def test_a_letter_from_elsewhere(self):
        self.hall.turn(p=give(0, "zoe@oak", mail("eve@elm"), told="them@elm"))
        self.assertEqual(self.hall.house.waiting()[0][5], ("notice", ("name", "elm", "eve", "pad", 1, 1), "eve@elm",
                                                            "them@elm", "unknown"))
        # Each notice waits, also of the same letter, teller and told.
        self.hall.turn(p=give(1, "zo@oak", mail("eve@elm"), told="them@elm"))
        self.assertEqual(len(self.hall.house.waiting()), 2)
        # For a house that is not known, or a teller who is no user, it is dropped.
        self.hall.turn(p=give(2, "zoe@oak", mail("eve@elm"), teller="eve@fir"))
        self.hall.turn(p=give(3, "zoe@oak", mail("eve@elm"), teller="zoe@oak"))
        self.hall.turn(p=give(4, "zoe@oak", mail("eve@elm"), teller="all@oak"))
        self.assertEqual(len(self.hall.house.waiting()), 2)
        self.assertEqual([self.hall.notices(user) for user in ("ann", "bo", "cy")], [[], [], []])
        # A teller of this house is told here.
        self.hall.turn(p=give(5, "zoe@oak", mail("eve@elm"), teller="bo@oak", told="x@elm"))
        self.assertEqual(self.hall.notices("bo"), [("x@elm", "unknown", "letter elm eve pad 1 1")])
        self.hall.again()


class Filters(Journeys):
    def test_file_and_keep(self):
        self.do("bo", "make work")
        self.filter("bo", "file work red blue", "keep", "file nobox green", "file inbox gray")
        self.send("ann", "bo@oak")
        self.assertEqual(self.kept("bo", 3), [("s", ("blue", "red"))])
        # A box that he did not have counts as inbox, with the flags of all.
        self.assertEqual(self.kept("bo"), [("s", ("gray", "green"))])

    def test_of_more_than_eight_flags_the_first_eight(self):
        self.filter("bo", "keep b d f h j l n p", "file nobox a c e g i k m o", "file other z")
        self.send("ann", "bo@oak")
        self.assertEqual(self.kept("bo"), [("s", tuple("abcdefgh"))])

    def test_refuse_and_drop(self):
        self.filter("bo", "refuse")
        self.filter("cy", "drop")
        self.send("ann", "bo@oak,cy@oak")
        self.assertEqual(self.hall.notices("ann"), [("bo@oak", "refused", "letter oak ann pad 1 1")])
        self.assertEqual((self.kept("bo"), self.kept("cy")), ([], []))
        self.filter("cy", "drop", "keep red")
        self.send("ann", "cy@oak")
        self.assertEqual(self.kept("cy"), [("s", ("red",))])

    def test_the_outcome_of_the_first_arrival_is_kept(self):
        self.hall.turn(p=give(0, "bo@oak", mail("eve@elm")))
        self.filter("bo", "refuse")
        self.hall.turn(p=give(1, "bo@oak", mail("eve@elm"), trail=("x@elm",)))
        self.assertEqual((len(self.kept("bo")), self.waiting()), (1, []))
        self.hall.turn(p=give(2, "bo@oak", mail("eve@elm"), name="elm eve pad 1 2"))
        self.filter("bo", "keep")
        self.hall.turn(p=give(3, "bo@oak", mail("eve@elm"), name="elm eve pad 1 2"))
        self.assertEqual(self.waiting(), [("eve@elm", "bo@oak", "refused")] * 2)

    def test_the_turn_and_the_letter_are_asked(self):
        self.filter("bo", "drop", query="since 50")
        self.filter("cy", "file inbox two", query="subject two")
        self.send("ann", "bo@oak,cy@oak", "two")
        self.hall.turn(turn=60)
        self.send("ann", "bo@oak,cy@oak", "three")
        self.assertEqual(self.kept("bo"), [("two", ())])
        self.assertEqual(self.kept("cy"), [("two", ("two",)), ("three", ())])

    def test_forward(self):
        self.filter("bo", "forward cy@oak")
        self.filter("cy", "keep red", "forward eve@elm")
        self.send("ann", "bo@oak")
        self.assertEqual((self.kept("bo"), self.kept("cy")), ([], [("s", ("red",))]))
        self.assertEqual(self.waiting(), [("cy@oak", "eve@elm", ("bo@oak", "cy@oak"), "eve@elm")])
        # What comes to nothing is told to him who forwarded.
        self.filter("cy", "forward zoe@oak")
        self.send("ann", "bo@oak")
        self.assertEqual(self.hall.notices("cy"), [("zoe@oak", "unknown", "letter oak ann pad 1 2")])
        self.assertEqual((self.hall.notices("ann"), self.hall.notices("bo")), ([], []))

    def test_forwards_to_oneself_and_in_rings(self):
        self.filter("bo", "forward bo@oak")
        self.send("ann", "bo@oak")
        self.assertEqual(self.kept("bo"), [("s", ())])
        self.filter("bo", "forward cy@oak")
        self.filter("cy", "forward bo@oak")
        self.send("ann", "bo@oak", "r")
        # At cy bo stands in the trail: cy's inbox is the one box.
        self.assertEqual((self.kept("bo"), self.kept("cy")), ([("s", ())], [("r", ())]))
        # With boxes there it is forwarded no more, and not kept twice.
        self.do("cy", "make work")
        self.filter("cy", "file work", "forward bo@oak")
        self.send("ann", "bo@oak", "q")
        self.assertEqual((self.kept("cy", 3), len(self.kept("cy"))), ([("q", ())], 1))
        self.assertEqual(self.waiting(), [])

    def test_the_trail_is_asked_at_each_arrival(self):
        self.filter("bo", "forward cy@oak")
        self.send("ann", "bo@oak,cy@oak")
        self.assertEqual((self.kept("bo"), self.kept("cy")), ([], [("s", ())]))
        self.hall.turn(p=give(0, "bo@oak", mail("eve@elm")))
        self.assertEqual(len(self.kept("cy")), 2)
        # The same letter by another way: forward stands in the trail, so inbox gets it.
        self.hall.turn(p=give(1, "bo@oak", mail("eve@elm"), trail=("cy@oak",)))
        self.assertEqual((len(self.kept("bo")), len(self.kept("cy"))), (1, 2))
        self.hall.turn(p=give(2, "bo@oak", mail("eve@elm"), trail=("cy@oak",)))
        self.assertEqual((len(self.kept("bo")), len(self.kept("cy"))), (1, 2))

    def test_the_order_of_what_begins(self):
        # Depth first: what begins at bo is done ahead of cy's journey.
        self.filter("bo", "forward zoe@oak")
        self.send("ann", "bo@oak,zoe@oak")
        self.assertEqual(self.hall.notices("bo"), [("zoe@oak", "unknown", "letter oak ann pad 1 1")])
        self.filter("bo", "forward cy@oak")
        self.filter("cy", "file inbox x")
        self.send("ann", "bo@oak,eve@elm,all@oak")
        self.assertEqual(self.waiting(), [("ann@oak", "eve@elm", (), "eve@elm"),
                                          ("ann@oak", "all@oak", ("all@oak",), "eve@elm")])


class Boxes(Journeys):
    def give(self, number, name="elm eve pad 1 1", trail=()):
        self.hall.turn(p=give(number, "bo@oak", mail("eve@elm"), name=name, trail=trail))

    def test_a_box_that_is_renamed_between_two_arrivals(self):
        self.do("bo", "make work")
        self.filter("bo", "file work")
        self.give(0)
        self.do("bo", "rename 3 play")
        self.do("bo", "make work")
        self.give(1, trail=("a@elm",))
        self.assertEqual((len(self.kept("bo", 3)), len(self.kept("bo", 4)), len(self.kept("bo"))), (1, 0, 0))

    def test_a_box_that_is_made_between_two_arrivals(self):
        self.filter("bo", "file work red")
        self.give(0)
        self.do("bo", "make work")
        self.give(1, trail=("a@elm",))
        self.assertEqual((len(self.kept("bo", 3)), self.kept("bo")), (0, [("s", ("red",))]))

    def test_a_box_that_is_unmade_between_two_arrivals(self):
        self.do("bo", "make work")
        self.do("bo", "make full")
        # Full at the first arrival, so that nothing is filed.
        self.fill("bo", 4)
        self.filter("bo", "file work red", "file full blue")
        self.give(0)
        self.assertEqual(self.waiting(), [("eve@elm", "bo@oak", "full")])
        self.assertEqual((self.kept("bo"), self.kept("bo", 3)), ([], []))
        # Both are unmade: the one counts as inbox, the other one is left out as it stands there.
        self.do("bo", "unmake 3")
        self.do("bo", "unmake 4")
        self.give(1)
        self.assertEqual(self.kept("bo"), [("s", ("red",))])
        self.give(2)
        self.assertEqual(len(self.kept("bo")), 1)

    def test_an_unmade_box_into_which_it_was_filed(self):
        self.do("bo", "make work")
        self.filter("bo", "file work red")
        self.give(0)
        self.do("bo", "unmake 3")
        self.give(1)
        # It was filed there by a journey before, and is not filed again.
        self.assertEqual(self.kept("bo"), [])

    def test_an_unmade_box_beside_inbox(self):
        self.do("bo", "make work")
        self.fill("bo", 0)
        self.filter("bo", "file work red", "keep blue")
        self.give(0)
        self.assertEqual(self.waiting()[-1:], [("eve@elm", "bo@oak", "full")])
        self.do("bo", "unmake 3")
        self.do("bo", "take 0 1:9")
        self.give(1)
        records = self.hall.house.store().records("bo", 0)
        self.assertEqual([row[3] for row in records if "Subject" in dict(row[5][1])], [("blue",)])

    def test_full_and_forward(self):
        self.fill("bo", 0)
        self.do("bo", "make work")
        self.filter("bo", "file work", "keep", "forward cy@oak")
        self.send("ann", "bo@oak")
        # It is filed into none of the boxes, told as full, and forwarded all the same.
        self.assertEqual(self.hall.notices("ann"), [("bo@oak", "full", "letter oak ann pad 1 1")])
        self.assertEqual((self.kept("bo", 3), self.kept("cy")), ([], [("s", ())]))
        self.hall.again()


class Told(Journeys):
    def test_each_cause_once(self):
        note = "note {} elm eve pad 1 1 {} {} {}\n"
        for number, (teller, told, cause) in enumerate((
                ("ann@oak", "x@elm", "full"), ("ann@oak", "x@elm", "refused"), ("ann@oak", "y@elm", "refused"),
                ("bo@oak", "x@elm", "withdrawn"), ("ann@oak", "x@elm", "full"), ("zoe@oak", "x@elm", "full"))):
            self.assertEqual(self.hall.turn(p=note.format(number, teller, told, cause)), {"p": f"took {number}\n"})
        self.assertEqual(self.hall.notices("ann"), [("x@elm", "full", "letter elm eve pad 1 1"),
                                                    ("y@elm", "refused", "letter elm eve pad 1 1")])
        self.assertEqual(self.hall.notices("bo"), [("x@elm", "withdrawn", "letter elm eve pad 1 1")])
        self.hall.again()

    def test_a_notice_goes_into_full_notices(self):
        self.fill("ann", 1)
        many = len(self.hall.letters("ann", 1))
        self.send("ann", "zoe@oak")
        self.assertEqual(len(self.hall.letters("ann", 1)), many + 1)

    def test_the_journal_explains_it(self):
        self.filter("bo", "forward eve@elm", "keep red")
        self.send("ann", "bo@oak,all@oak,zoe@oak")
        self.hall.turn(p=give(0, "all@oak", mail("eve@elm")))
        for house in self.hall.again():
            self.assertEqual(house.waiting(), self.hall.house.waiting())
            self.assertEqual(house.store().state(), self.hall.house.store().state())

    def test_came_holds_the_entry(self):
        text = mail("eve@elm")
        self.hall.turn(p=give(0, "bo@oak", text, trail=("a@elm", "b@yew")))
        self.assertEqual(self.hall.new, (("came", self.hall.now, "elm", 0,
                                          entry("bo@oak", text, trail=("a@elm", "b@yew"))),))


if __name__ == "__main__":
    unittest.main()
