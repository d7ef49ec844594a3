"""Boxes: c5, s3, s7."""

import random
import unittest

from oncemail.boxes import flagged, has_room, new_box, put_in, record_of, signs_of, taken_out
from oncemail.letters import size_of
from tests.samples import CODED, LINES, PLAIN, lined, sized


def filled(count, flags=(), letter=PLAIN):
    """A box with so many records, put in one by one."""
    box = new_box()
    for turn in range(count):
        box, _ = put_in(box, ((flags, turn, letter),))
    return box


class Case(unittest.TestCase):
    def right(self, box):
        """The box, which is right by c5."""
        kind, following, change, floor, kept, gone = box
        self.assertEqual(kind, "box")
        uids = [record[1] for record in kept]
        self.assertEqual(uids, sorted(set(uids)))
        self.assertEqual(list(gone), sorted(gone))
        self.assertEqual(len({uid for uid, _ in gone} | set(uids)), len(gone) + len(uids))
        self.assertLessEqual(len(gone), 200)
        for uid, last in [record[1:3] for record in kept] + list(gone):
            self.assertTrue(1 <= uid < following and 1 <= last <= change)
        self.assertTrue(0 <= floor <= change)
        for part in (box, kept, gone, *kept, *gone):
            self.assertIs(type(part), tuple)
        for record in kept:
            self.assertEqual(record[0], "kept")
            self.assertEqual(record[3], tuple(sorted(set(record[3]))))
        return box


class New(Case):
    def test_a_new_box(self):
        self.assertEqual(new_box(), ("box", 1, 0, 0, (), ()))
        self.right(new_box())

    def test_it_is_empty(self):
        self.assertEqual(signs_of(new_box()), 0)
        self.assertIsNone(record_of(new_box(), 1))
        self.assertIs(has_room(new_box(), ()), True)


class Put(Case):
    def test_one_row(self):
        box, uids = put_in(new_box(), ((("a", "b"), 70, LINES),))
        self.assertEqual(box, ("box", 2, 1, 0, (("kept", 1, 1, ("a", "b"), 70, LINES),), ()))
        self.assertEqual(uids, (1,))
        box, uids = put_in(box, (((), 0, PLAIN),))
        self.assertEqual(box[1:3], (3, 2))
        self.assertEqual(box[4], (("kept", 1, 1, ("a", "b"), 70, LINES), ("kept", 2, 2, (), 0, PLAIN)))
        self.assertEqual(uids, (2,))

    def test_several_rows_are_one_change(self):
        box, uids = put_in(filled(2), (((), 9, LINES), (("z",), 8, CODED), ((), 7, LINES)))
        self.assertEqual(uids, (3, 4, 5))
        self.assertEqual(box[:4], ("box", 6, 3, 0))
        self.assertEqual(box[4][2:], (("kept", 3, 3, (), 9, LINES), ("kept", 4, 3, ("z",), 8, CODED),
                                      ("kept", 5, 3, (), 7, LINES)))
        self.right(box)

    def test_uids_are_never_used_twice(self):
        box = taken_out(filled(3), (1, 2, 3))
        box, uids = put_in(box, (((), 0, PLAIN),))
        self.assertEqual(uids, (4,))
        self.assertEqual(box, ("box", 5, 5, 0, (("kept", 4, 5, (), 0, PLAIN),), ((1, 4), (2, 4), (3, 4))))

    def test_what_is_handed_in_stays(self):
        box, rows = filled(2), (((), 9, LINES),)
        told = repr((box, rows))
        put_in(box, rows)
        flagged(box, (1,), "set", ("a",))
        taken_out(box, (1,))
        self.assertEqual(repr((box, rows)), told)


class Asked(Case):
    def test_signs_of(self):
        box, _ = put_in(filled(2), (((), 9, LINES), ((), 9, CODED)))
        self.assertEqual(signs_of(box), 2 * size_of(PLAIN) + size_of(LINES) + size_of(CODED))
        self.assertEqual(signs_of(taken_out(box, (1, 3))), size_of(PLAIN) + size_of(CODED))

    def test_record_of(self):
        box = taken_out(filled(4), (2,))
        self.assertEqual(record_of(box, 3), ("kept", 3, 3, (), 2, PLAIN))
        self.assertEqual(record_of(box, 1), ("kept", 1, 1, (), 0, PLAIN))
        for uid in (2, 5, 0, 999999999):
            self.assertIsNone(record_of(box, uid))
        box = flagged(box, (4,), "add", ("x",))
        self.assertEqual(record_of(box, 4), ("kept", 4, 6, ("x",), 3, PLAIN))
        self.assertIsNone(record_of(box, 6))


class Room(Case):
    def room(self, box, sizes, wanted):
        self.assertIs(has_room(box, sizes), wanted)

    def test_1000_letters_and_one_more(self):
        box = filled(998)
        self.room(box, (40,), True)
        self.room(box, (40, 40), True)
        self.room(box, (40, 40, 40), False)
        self.room(filled(1000), (), True)
        self.room(filled(1000), (4,), False)
        self.room(filled(1001), (), False)
        self.room(new_box(), (4,) * 1000, True)
        self.room(new_box(), (4,) * 1001, False)

    def test_1000000_signs_and_one_more(self):
        box, _ = put_in(new_box(), (((), 0, sized(20000)),) * 49)
        self.room(box, (20000,), True)
        self.room(box, (20001,), False)
        self.room(box, (10000, 10000), True)
        self.room(box, (10000, 10001), False)
        box, _ = put_in(box, (((), 0, sized(20000)),))
        self.assertEqual(signs_of(box), 1000000)
        self.room(box, (), True)
        self.room(box, (1,), False)
        self.room(new_box(), (20000,) * 50, True)
        self.room(new_box(), (20000,) * 50 + (1,), False)
        self.room(taken_out(box, (7,)), (20000,), True)
        box, _ = put_in(box, (((), 0, PLAIN),))
        self.room(box, (), False)


class Flags(Case):
    def setUp(self):
        self.box, _ = put_in(new_box(), ((("b",), 0, PLAIN), (("a", "c"), 1, PLAIN), ((), 2, PLAIN)))

    def flags(self, mode, flags, *wanted, uids=(1, 2, 3)):
        """The flags behind a flag deed, and that just the records that became others have its change."""
        box = self.right(flagged(self.box, uids, mode, flags))
        self.assertEqual(tuple(record[3] for record in box[4]), wanted)
        others = [old[3] != new[3] for old, new in zip(self.box[4], box[4])]
        self.assertEqual(box[2], 2 if any(others) else 1)
        self.assertEqual([record[2] for record in box[4]], [2 if other else 1 for other in others])
        self.assertEqual([(*new[:2], *new[4:]) for new in box[4]], [(*old[:2], *old[4:]) for old in self.box[4]])
        self.assertEqual((box[1], box[3], box[5]), (4, 0, ()))
        return box

    def test_add(self):
        self.flags("add", ("b",), ("b",), ("a", "b", "c"), ("b",))
        self.flags("add", ("a", "d"), ("a", "b", "d"), ("a", "c", "d"), ("a", "d"))
        self.flags("add", ("z",), ("b",), ("a", "c", "z"), (), uids=(2,))

    def test_drop(self):
        self.flags("drop", ("c",), ("b",), ("a",), ())
        self.flags("drop", ("a", "b", "c"), (), (), ())
        self.flags("drop", ("a", "b", "c"), ("b",), ("a", "c"), (), uids=(3,))

    def test_set(self):
        self.flags("set", ("b",), ("b",), ("b",), ("b",))
        self.flags("set", (), (), (), ())
        self.flags("set", ("x", "y"), ("b",), ("x", "y"), ("x", "y"), uids=(2, 3))

    def test_where_nothing_becomes_other(self):
        for mode, flags, uids in (("add", ("b",), (1,)), ("add", (), (1, 2, 3)), ("drop", ("z",), (1, 2, 3)),
                                  ("drop", (), (1,)), ("set", ("a", "c"), (2,)), ("set", (), (3,)), ("set", ("q",), ())):
            self.assertEqual(flagged(self.box, uids, mode, flags), self.box)

    def test_only_the_records_that_become_others_are_changed(self):
        box = flagged(self.box, (1, 2, 3), "add", ("b",))
        self.assertEqual([record[2] for record in box[4]], [1, 2, 2])

    def test_any_number_of_flags(self):
        many = tuple("abcdefghijklmnopqrstuvwxyz")
        box = self.flags("set", many, many, many, many)
        self.assertEqual(box[4][0][3], many)
        self.flags("add", tuple("defghijk"), tuple("bdefghijk"), tuple("acdefghijk"), tuple("defghijk"))

    def test_several_deeds(self):
        box = flagged(flagged(self.box, (1,), "add", ("z",)), (2, 3), "set", ("y",))
        self.assertEqual([record[1:4] for record in box[4]], [(1, 2, ("b", "z")), (2, 3, ("y",)), (3, 3, ("y",))])
        self.assertEqual(box[2], 3)


class Taken(Case):
    def test_some(self):
        box = self.right(taken_out(filled(4), (2, 4)))
        self.assertEqual(box[:4], ("box", 5, 5, 0))
        self.assertEqual([record[1] for record in box[4]], [1, 3])
        self.assertEqual(box[5], ((2, 5), (4, 5)))
        box = self.right(taken_out(box, (1,)))
        self.assertEqual((box[2], box[5]), (6, ((1, 6), (2, 5), (4, 5))))

    def test_all(self):
        box = self.right(taken_out(filled(3), (1, 2, 3)))
        self.assertEqual(box, ("box", 4, 4, 0, (), ((1, 4), (2, 4), (3, 4))))

    def test_none(self):
        for box in (new_box(), filled(3), taken_out(filled(3), (2,))):
            self.assertEqual(taken_out(box, ()), box)

    def test_200_and_201_pairs(self):
        box = filled(202)
        for uid in range(1, 201):
            box = taken_out(box, (uid,))
        self.assertEqual(box[5], tuple((uid, 202 + uid) for uid in range(1, 201)))
        self.assertEqual(box[3], 0)
        box = self.right(taken_out(box, (202,)))
        self.assertEqual(box[5], tuple((uid, 202 + uid) for uid in range(2, 201)) + ((202, 403),))
        self.assertEqual(box[3], 203)
        box = self.right(taken_out(box, (201,)))
        self.assertEqual(box[5][:1] + box[5][-2:], ((3, 205), (201, 404), (202, 403)))
        self.assertEqual(box[3], 204)

    def test_the_greatest_changes_stay_and_not_the_greatest_uids(self):
        box = filled(300)
        for uid in range(300, 0, -1):
            box = taken_out(box, (uid,))
        self.assertEqual([uid for uid, _ in self.right(box)[5]], list(range(1, 201)))
        self.assertEqual(box[3], 400)

    def test_of_equal_changes_the_greater_uids_stay(self):
        box = self.right(taken_out(filled(300), tuple(range(1, 251))))
        self.assertEqual(box[5], tuple((uid, 301) for uid in range(51, 251)))
        self.assertEqual(box[3], 301)
        box = self.right(taken_out(box, (251, 252)))
        self.assertEqual(box[5], tuple((uid, 301) for uid in range(53, 251)) + ((251, 302), (252, 302)))
        self.assertEqual(box[3], 301)

    def test_the_floor_does_not_fall(self):
        box = taken_out(filled(450), tuple(range(201, 451)))
        self.assertEqual(box[3], 451)
        box = self.right(taken_out(box, (1,)))
        self.assertEqual((box[2], box[3], box[5][0], len(box[5])), (452, 451, (1, 452), 200))
        box, _ = put_in(box, (((), 0, PLAIN),))
        self.assertEqual(box[3], 451)
        self.assertEqual(flagged(box, (2,), "add", ("x",))[3], 451)

    def test_by_chance_as_the_slow_words(self):
        chance = random.Random(15)
        for _ in range(6):
            box = filled(chance.choice((150, 400)))
            pairs = {}
            while box[4]:
                uids = tuple(sorted(chance.sample([record[1] for record in box[4]],
                                                  chance.randrange(1, min(len(box[4]), 90) + 1))))
                box = self.right(taken_out(box, uids))
                pairs.update({uid: box[2] for uid in uids})
                order = sorted(pairs, key=lambda uid: (pairs[uid], uid), reverse=True)
                self.assertEqual(box[5], tuple(sorted((uid, pairs[uid]) for uid in order[:200])))
                self.assertEqual(box[3], max([pairs[uid] for uid in order[200:]], default=0))


class Changes(Case):
    def test_each_change_is_one_more(self):
        box, _ = put_in(new_box(), (((), 0, lined("a")),) * 3)
        self.assertEqual(box[2], 1)
        box = flagged(box, (1, 2), "add", ("x",))
        self.assertEqual(box[2], 2)
        box = flagged(box, (1, 2), "add", ("x",))
        self.assertEqual(box[2], 2)
        box = taken_out(box, (2, 3))
        self.assertEqual(box, ("box", 4, 3, 0, (("kept", 1, 2, ("x",), 0, lined("a")),), ((2, 3), (3, 3))))


if __name__ == "__main__":
    unittest.main()
