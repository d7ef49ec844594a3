"""s1 to s10: stores, point by point."""

import unittest

from oncemail.letters import read_letter, size_of
from oncemail.store import Store, store_of
from tests.samples import LINES, PLAIN, sized

EMPTY = ("box", 1, 0, 0, (), ())
TEXT = "A: b\n\n"
LETTER = read_letter(TEXT)


def no(reason):
    return ("no", reason)


class Houses(unittest.TestCase):
    """A house of three users; ann has the boxes work (3) and home (4)."""

    def setUp(self):
        self.store = Store(("ann", "bo", "cy"))
        self.done("ann", ("make", "work"), 3)
        self.done("ann", ("make", "home"), 4)

    def done(self, user, deed, value=None, values=(), turn=1):
        self.assertEqual(self.store.do(turn, user, deed, values), ("ok", value), deed)

    def refused(self, user, deed, reason, values=()):
        before = self.store.state()
        self.assertEqual(self.store.do(1, user, deed, values), no(reason), deed)
        self.assertEqual(self.store.state(), before)

    def put(self, box, *flags, user="ann"):
        return self.store.do(1, user, ("put", box, flags, TEXT), ())[1]

    def box(self, number, user="ann"):
        return ("box",) + self.store.look(user, number)[1:]

    def kept(self, number, user="ann"):
        return [(row[1], row[3]) for row in self.store.records(user, number)]


class Numbers(Houses):
    def test_a_new_store(self):
        store = Store(("ann", "bo"))
        rows = tuple((number, name, EMPTY, ()) for number, name in enumerate(("inbox", "notices", "sent")))
        self.assertEqual(store.state(), ("store", tuple(
            (user, "", ((user, 0), (user, 1), (user, 2)), rows) for user in ("ann", "bo"))))
        self.assertEqual(store.boxes("bo"), ((0, "bo", "inbox", "lrsiea"), (1, "bo", "notices", "lrsiea"),
                                             (2, "bo", "sent", "lrsiea")))
        self.assertEqual(store.next_number("ann"), 3)
        self.assertEqual(store.filter_of("ann"), "")
        self.assertEqual([store.number_of("ann", name) for name in ("inbox", "notices", "sent", "x")],
                         [0, 1, 2, None])
        self.assertEqual(store.look("ann", 2), ("seen", 1, 0, 0, (), ()))

    def test_numbers_of_boxes_that_are_given(self):
        self.done("ann", ("grant", 4, "bo", "l"))
        self.done("bo", ("make", "work"), 4)
        self.done("ann", ("grant", 3, "bo", "r"))
        self.assertEqual(self.store.boxes("bo")[3:], ((3, "ann", "home", "l"), (4, "bo", "work", "lrsiea"),
                                                      (5, "ann", "work", "lr")))
        self.assertEqual(self.store.next_number("bo"), 6)
        # Taken back and given again: the same number.
        self.done("ann", ("grant", 4, "bo", ""))
        self.assertEqual([row[0] for row in self.store.boxes("bo")], [0, 1, 2, 4, 5])
        self.assertEqual(self.store.next_number("bo"), 6)
        self.done("ann", ("grant", 4, "bo", "i"))
        self.assertEqual(self.store.boxes("bo")[3], (3, "ann", "home", "li"))
        self.assertEqual(self.store.next_number("bo"), 6)
        # Left and given again.
        self.done("bo", ("leave", 3))
        self.assertEqual(self.store.look("bo", 3), no("none"))
        self.done("ann", ("grant", 4, "bo", "a"))
        self.assertEqual(self.store.boxes("bo")[3], (3, "ann", "home", "lrsiea"))
        # What bo may give he gives by his number; what cy gets is the same box.
        self.done("bo", ("grant", 3, "cy", "ri"))
        self.assertEqual(self.store.boxes("cy")[3:], ((3, "ann", "home", "lri"),))
        self.assertEqual(self.put(3, user="cy"), 1)
        self.assertEqual(self.store.letter("ann", 4, 1), LETTER)

    def test_boxes_that_are_unmade_and_renamed(self):
        self.done("ann", ("grant", 3, "bo", "lrsiea"))
        self.done("ann", ("rename", 3, "play"))
        self.assertEqual(self.store.boxes("bo")[3], (3, "ann", "play", "lrsiea"))
        self.assertEqual(self.store.number_of("ann", "play"), 3)
        self.assertIsNone(self.store.number_of("ann", "work"))
        self.assertIsNone(self.store.number_of("bo", "play"))
        self.done("ann", ("unmake", 3))
        self.assertEqual(len(self.store.boxes("bo")), 3)
        self.assertEqual(self.store.next_number("bo"), 4)
        self.assertIsNone(self.store.number_of("ann", "play"))
        # Its number is never another box.
        self.done("ann", ("make", "play"), 5)
        self.done("bo", ("make", "play"), 4)
        self.assertEqual(self.store.state()[1][0][2], tuple(("ann", n) for n in range(6)))
        self.assertEqual(self.store.state()[1][1][2], (("bo", 0), ("bo", 1), ("bo", 2), ("ann", 3), ("bo", 4)))
        self.assertEqual([row[0] for row in self.store.state()[1][0][3]], [0, 1, 2, 4, 5])

    def test_a_box_that_is_not_there(self):
        self.done("ann", ("grant", 3, "bo", "lrsiea"))
        self.done("ann", ("grant", 3, "bo", ""))
        self.done("ann", ("make", "gone"), 5)
        self.done("ann", ("unmake", 5))
        for user, number in (("bo", 3), ("bo", 4), ("bo", 99), ("cy", 3), ("ann", 5), ("ann", 6), ("bo", -1)):
            for deed in (("unmake", number), ("rename", number, "x"), ("grant", number, "cy", "l"),
                         ("put", number, (), TEXT), ("flag", number, (), "add", ()), ("flag", number, (1,), "add", ()),
                         ("copy", number, (), 0), ("copy", 0, (), number), ("move", number, (), 0),
                         ("move", 0, (), number), ("take", number, ()), ("leave", number)):
                self.refused(user, deed, "none")
            self.assertEqual(self.store.look(user, number), no("none"))
            self.assertEqual(self.store.since(user, number, 0), no("none"))
            self.assertEqual(self.store.letter(user, number, 1), no("none"))
            self.assertEqual(self.store.records(user, number), no("none"))


class Rights(Houses):
    def test_just_enough_and_just_too_little(self):
        self.put(3, "a")
        self.put(3, "b")
        self.done("bo", ("make", "mine"), 3)
        self.put(3, user="bo")
        number = 4
        deeds = (
            ("put without flags", ("put", 4, (), TEXT), "i"),
            ("put with flags", ("put", 4, ("x",), TEXT), "is"),
            ("flag", ("flag", 4, (1,), "add", ("x",)), "s"),
            ("flag none", ("flag", 4, (), "add", ()), "s"),
            ("copy from", ("copy", 4, (1,), 3), "r"),
            ("copy to", ("copy", 3, (1,), 4), "i"),
            ("copy within", ("copy", 4, (1,), 4), "ri"),
            ("move from", ("move", 4, (1,), 3), "re"),
            ("move to", ("move", 3, (1,), 4), "i"),
            ("take", ("take", 4, (1,)), "e"),
            ("take none", ("take", 4, ()), "e"),
            ("grant", ("grant", 4, "cy", "l"), "a"),
            ("leave", ("leave", 4), ""),
        )
        for told, deed, needs in deeds:
            for letters in ("l", "lr", "li", "lri", "lrs", "lre", "lrsi", "lrse", "lrie", "lrsie", "lrsiea"):
                store = self.store.branch()
                self.assertEqual(store.do(1, "ann", ("grant", 3, "bo", letters), ()), ("ok", None))
                self.assertEqual(store.boxes("bo")[number][3], letters)
                before = store.state()
                answer = store.do(1, "bo", deed, ())
                if set(needs) <= set(letters):
                    self.assertEqual(answer[0], "ok", (told, letters))
                else:
                    self.assertEqual(answer, no("rights"), (told, letters))
                    self.assertEqual(store.state(), before)
        self.done("ann", ("grant", 3, "bo", "lrsiea"))
        self.refused("bo", ("unmake", 4), "rights")
        self.refused("bo", ("rename", 4, "mine"), "rights")

    def test_completed_letters(self):
        for letters, wanted in (("", None), ("l", "l"), ("r", "lr"), ("s", "lrs"), ("i", "li"), ("e", "lre"),
                                ("se", "lrse"), ("ie", "lrie"), ("a", "lrsiea"), ("ri", "lri")):
            store = self.store.branch()
            store.do(1, "ann", ("grant", 3, "bo", letters), ())
            rows = [row[3] for row in store.boxes("bo")[3:]]
            self.assertEqual(rows, [] if wanted is None else [wanted])
            self.assertEqual(store.next_number("bo"), 3 if wanted is None else 4)
            self.assertEqual(store.state()[1][0][3][3][3], () if wanted is None else (("bo", wanted),))

    def test_grant(self):
        self.refused("ann", ("grant", 3, "zoe", "l"), "none")
        self.refused("ann", ("grant", 3, "ann", "l"), "kept")
        self.refused("ann", ("grant", 3, "bo", "rl"), "name")
        self.refused("ann", ("grant", 3, "Bo", "l"), "name")
        self.done("ann", ("grant", 3, "bo", "lrsiea"))
        self.refused("bo", ("grant", 3, "ann", ""), "kept")
        # He who has a gives his own rights, too.
        self.done("bo", ("grant", 3, "bo", "r"))
        self.assertEqual(self.store.boxes("bo")[3][3], "lr")
        self.refused("bo", ("grant", 3, "bo", "a"), "rights")
        self.refused("bo", ("grant", 3, "zoe", "a"), "none")
        self.done("ann", ("grant", 0, "bo", "r"))
        self.assertEqual(self.store.boxes("bo")[4], (4, "ann", "inbox", "lr"))

    def test_values_without_r(self):
        self.done("ann", ("grant", 3, "bo", "i"))
        self.done("bo", ("put", 3, (), TEXT), None)
        self.put(0, user="bo")
        self.done("bo", ("copy", 0, (1,), 3), None)
        self.done("bo", ("copy", 0, (), 3), None)
        self.done("bo", ("move", 0, (1,), 3), None)
        self.assertEqual(self.kept(3), [(1, ()), (2, ()), (3, ())])

    def test_flags_come_with_s_alone(self):
        for letters, flags in (("ri", ()), ("rsi", ("x", "y"))):
            self.done("ann", ("grant", 3, "bo", letters))
            uid = self.put(0, "x", "y", user="bo")
            for deed in ("copy", "move"):
                new = self.store.do(9, "bo", (deed, 0, (uid,), 3), ())[1]
                self.assertEqual(self.store.records("ann", 3)[-1][1:],
                                 (new[0], self.box(3)[2], flags, 1, LETTER))


class Reasons(Houses):
    def test_name(self):
        for deed in (("send", ("ann@oak",), TEXT), ("back", 1, 1), ("make", "Work"), ("make", ""), ("make", 1),
                     ("make", "x" * 13), ("make",), ("make", "a", "b"), (), "make", None, 5, True, ("x",), (1,),
                     ("put", 0, ("b", "a"), TEXT), ("put", 0, ("A",), TEXT), ("put", 0, (), None),
                     ("put", "0", (), TEXT), ("put", True, (), TEXT), ("flag", 0, (1, 1), "add", ()),
                     ("flag", 0, (1,), "put", ()), ("flag", 0, [1], "add", ()), ("take", 0, 1), ("take", None, ()),
                     ("copy", 0, (0,), 0), ("move", 0, (1,), None), ("rename", 99, "A"), ("grant", 99, "bo", "x"),
                     ("filter", None), ("leave", "x")):
            self.refused("ann", deed, "name")

    def test_text(self):
        for text in ("", "\n", "A\n\n", "A: b\n\n" + "x" * 501, "A: b\n\n" + ("x" * 99 + "\n") * 200):
            self.refused("ann", ("put", 99, tuple("abcdefghi"), text), "text")
        for text in ("x", "when\n", "when all\n", " ", "when all\n  keep\n" * 41, "#" * 5001):
            if text == " ":
                self.done("ann", ("filter", text))
            else:
                self.refused("ann", ("filter", text), "text")

    def test_many(self):
        flags = tuple("abcdefghi")
        self.refused("ann", ("put", 99, flags, TEXT), "many")
        self.refused("ann", ("flag", 99, (), "drop", flags), "many")
        self.done("ann", ("put", 3, flags[:8], TEXT), 1)
        self.refused("ann", ("flag", 3, (1,), "add", ("i",)), "full")
        self.done("ann", ("flag", 3, (1,), "add", ("a", "h")), 1)
        self.done("ann", ("flag", 3, (1,), "set", flags[1:]), 2)
        self.done("ann", ("flag", 3, (1,), "drop", flags[:8]), 3)
        self.assertEqual(self.kept(3), [(1, ("i",))])
        self.put(3)
        # One record among several is enough.
        self.done("ann", ("flag", 3, (1,), "add", flags[1:8]), 5)
        self.refused("ann", ("flag", 3, (1, 2), "add", ("a",)), "full")
        self.done("ann", ("flag", 3, (2,), "add", ("a",)), 6)

    def test_the_61st_box(self):
        for n in range(5, 60):
            self.done("ann", ("make", f"b{n}"), n)
        self.refused("ann", ("make", "more"), "many")
        self.refused("ann", ("make", "work"), "many")
        # Boxes of others do not count, nor those that are unmade.
        self.done("bo", ("make", "x"), 3)
        self.done("bo", ("grant", 3, "ann", "l"))
        self.refused("ann", ("make", "more"), "many")
        self.done("ann", ("unmake", 7))
        self.done("ann", ("make", "more"), 61)
        self.refused("ann", ("make", "b7"), "many")

    def test_uid(self):
        self.put(3)
        for deed in (("flag", 3, (1, 2), "add", ()), ("copy", 3, (2,), 3), ("move", 3, (1, 9), 3), ("take", 3, (2,)),
                     ("take", 3, (-1,)), ("take", 3, (-1, 1))):
            self.refused("ann", deed, "uid")

    def test_kept_and_there(self):
        for number in (0, 1, 2):
            self.refused("ann", ("unmake", number), "kept")
            self.refused("ann", ("rename", number, "x"), "kept")
            self.refused("ann", ("rename", number, "work"), "kept")
            self.refused("ann", ("leave", number), "kept")
        self.refused("ann", ("leave", 3), "kept")
        for name in ("work", "home", "inbox", "notices", "sent"):
            self.refused("ann", ("make", name), "there")
            self.refused("ann", ("rename", 3, name), "there")
        self.refused("ann", ("move", 3, (), 3), "there")
        self.put(3)
        self.refused("ann", ("move", 3, (1,), 3), "there")
        self.refused("ann", ("move", 3, (2,), 3), "uid")

    def test_minus_k_of_boxes(self):
        values = ((1, ("box", 3)), (3, ("uid", 3, 1)), (4, ("box", 99)))
        self.put(3)
        self.done("ann", ("rename", -1, "play"), None, values)
        for number in (-2, -3, -4, -9):
            self.refused("ann", ("rename", number, "play"), "none", values)
            self.refused("ann", ("copy", 3, (), number), "none", values)
        self.done("ann", ("copy", -1, (1,), -1), (2,), values)
        self.done("ann", ("put", -1, (), TEXT), 3, values)
        self.done("ann", ("unmake", -1), None, values)
        self.refused("ann", ("unmake", -1), "none", values)

    def test_minus_k_of_uids(self):
        self.put(3)
        self.put(3)
        self.put(4)
        values = ((1, ("box", 3)), (2, ("uid", 3, 1)), (5, ("uid", 4, 1)), (6, ("uid", 3, 2)), (7, ("uid", 3, 9)))
        for uids, wanted in (((-2,), [1]), ((-6, -2), [1, 2]), ((-2, 1), [1]), ((-6, -2, 1, 2), [1, 2]), ((-6, 1), [1, 2])):
            for box in (3, -1):
                store = self.store.branch()
                self.assertEqual(store.do(1, "ann", ("copy", box, uids, 4), values)[1],
                                 tuple(range(2, 2 + len(wanted))))
                self.assertEqual(store.do(1, "ann", ("take", box, uids), values)[0], "ok")
                self.assertEqual([row[1] for row in store.records("ann", 3)], [n for n in (1, 2) if n not in wanted])
        # In another box, of another kind, gone, or of no deed.
        for uid in (-5, -1, -7, -9):
            self.refused("ann", ("take", 3, (uid,)), "uid", values)
        self.refused("ann", ("take", 4, (-2,)), "uid", values)
        self.done("ann", ("move", 4, (-5,), 3), (3,), values)


class Room(Houses):
    def test_a_thousand_letters(self):
        for _ in range(998):
            self.store.notice(1, "ann", LETTER)
        for _ in range(3):
            self.put(3)
        self.refused("ann", ("copy", 3, (1, 2, 3), 1), "full")
        self.refused("ann", ("move", 3, (1, 2, 3), 1), "full")
        self.done("ann", ("copy", 3, (1, 2), 1), (999, 1000))
        self.refused("ann", ("copy", 3, (1,), 1), "full")
        self.refused("ann", ("put", 1, (), TEXT), "full")
        self.done("ann", ("copy", 3, (), 1), ())
        self.done("ann", ("flag", 1, (1,), "add", ("x",)), 1000)
        self.assertIs(self.store.file(1, "ann", ((3, ()), (1, ())), LETTER), False)
        # Notices have room for a notice beyond the bounds.
        self.store.notice(1, "ann", LETTER)
        self.assertEqual(len(self.store.records("ann", 1)), 1001)
        self.done("ann", ("copy", 3, (), 1), ())
        self.done("ann", ("take", 1, (1, 2)), 1002)
        self.done("ann", ("put", 1, (), TEXT), 1002)

    def test_a_million_signs(self):
        big, rest = sized(20000), sized(19990)
        for _ in range(49):
            self.assertTrue(self.store.file(1, "ann", ((3, ()), (4, ())), big))
        self.assertTrue(self.store.file(1, "ann", ((3, ()),), rest))
        self.assertEqual(1000000 - sum(size_of(row[5]) for row in self.store.records("ann", 3)), 10)
        self.done("ann", ("put", 0, (), "A: " + "b" * 6 + "\n\n"), 1)
        self.done("ann", ("put", 0, (), "A: " + "b" * 5 + "\n\n"), 2)
        self.refused("ann", ("copy", 0, (1,), 3), "full")
        self.refused("ann", ("put", 3, (), "A: " + "b" * 6 + "\n\n"), "full")
        self.assertIs(self.store.file(1, "ann", ((3, ()),), sized(11)), False)
        self.refused("ann", ("copy", 3, (1, 2), 4), "full")
        self.refused("ann", ("move", 3, (1, 2), 4), "full")
        self.done("ann", ("copy", 3, (1,), 4), (50,))
        self.done("ann", ("move", 0, (2,), 3), (51,))
        self.assertEqual(sum(size_of(row[5]) for row in self.store.records("ann", 3)), 1000000)
        self.refused("ann", ("put", 3, (), "A:\n\n"), "full")
        self.done("ann", ("take", 3, (51,)), 52)
        self.done("ann", ("put", 3, (), "A:\n\n"), 52)
        # By the same sums in a store of the same state.
        self.assertEqual(store_of(self.store.state()).do(1, "ann", ("put", 3, (), "A: bb\n\n"), ()), no("full"))
        self.store.notice(1, "ann", big)

    def test_what_may_be_put_more(self):
        self.done("ann", ("grant", 1, "bo", "i"))
        self.assertEqual(self.store.look("bo", 3), ("room", 1000, 1000000))
        self.put(1)
        self.assertEqual(self.store.look("bo", 3), ("room", 999, 1000000 - len(TEXT)))
        for _ in range(51):
            self.store.notice(1, "ann", sized(20000))
        self.assertEqual(self.store.look("bo", 3), ("room", 948, 0))
        for _ in range(1000):
            self.store.notice(1, "ann", LETTER)
        self.assertEqual(self.store.look("bo", 3), ("room", 0, 0))


class Changes(Houses):
    def test_behind_each_deed(self):
        self.done("ann", ("put", 3, (), TEXT), 1)
        self.assertEqual(self.box(3)[1:4], (2, 1, 0))
        self.done("ann", ("copy", 3, (1,), 3), (2,))
        self.assertEqual(self.box(3), ("box", 3, 2, 0, (("kept", 1, 1, (), 1, LETTER), ("kept", 2, 2, (), 1, LETTER)), ()))
        self.done("ann", ("copy", 3, (1, 2), 4), (1, 2))
        self.assertEqual([row[2] for row in self.store.records("ann", 4)], [1, 1])
        self.done("ann", ("flag", 3, (1, 2), "add", ("x",)), 3)
        self.assertEqual([row[2] for row in self.store.records("ann", 3)], [3, 3])
        for deed in (("flag", 3, (1,), "add", ("x",)), ("flag", 3, (1,), "set", ("x",)),
                     ("flag", 3, (1,), "drop", ("y",)), ("flag", 3, (), "set", ())):
            self.done("ann", deed, 3)
        self.done("ann", ("flag", 3, (2,), "add", ("y",)), 4)
        self.done("ann", ("flag", 3, (1, 2), "add", ("y",)), 5)
        self.assertEqual([row[2] for row in self.store.records("ann", 3)], [5, 4])
        self.done("ann", ("move", 3, (1,), 4), (3,))
        self.assertEqual(self.box(3)[1:4] + self.box(3)[5:], (3, 6, 0, ((1, 6),)))
        self.assertEqual(self.store.records("ann", 4)[2], ("kept", 3, 2, ("x", "y"), 1, LETTER))
        self.done("ann", ("take", 4, (1, 3)), 3)
        self.assertEqual(self.box(4)[5], ((1, 3), (3, 3)))
        self.done("ann", ("take", 4, ()), 3)
        for deed in (("copy", 4, (), 3), ("move", 4, (), 3)):
            self.done("ann", deed, ())
        self.assertEqual((self.box(3)[2], self.box(4)[2]), (6, 3))
        self.done("ann", ("rename", 4, "x"))
        self.assertEqual(self.box(4)[2], 3)

    def test_the_turn(self):
        self.done("ann", ("put", 3, ("x",), TEXT), 1, turn=7)
        self.done("ann", ("copy", 3, (1,), 4), (1,), turn=9)
        self.assertEqual(self.store.records("ann", 4), (("kept", 1, 1, ("x",), 7, LETTER),))

    def test_gone_and_floor(self):
        for _ in range(205):
            self.put(3)
        self.done("ann", ("take", 3, tuple(range(1, 202))), 206)
        # Of equal changes the greater uids are kept; the floor is that of the lost ones.
        self.assertEqual(self.box(3)[3], 206)
        self.assertEqual([pair[0] for pair in self.box(3)[5]], list(range(2, 202)))
        self.assertEqual(self.store.since("ann", 3, 205)[0], "all")
        self.assertEqual(self.store.since("ann", 3, 206), ("since", 206, 206, (), ()))
        self.done("ann", ("take", 3, (202,)), 207)
        self.assertEqual(self.box(3)[3], 206)
        self.assertEqual([pair[0] for pair in self.box(3)[5]], list(range(3, 203)))


class Filing(Houses):
    def test_into_none_one_and_several(self):
        before = self.store.state()
        self.assertIs(self.store.file(5, "ann", (), PLAIN), True)
        self.assertEqual(self.store.state(), before)
        self.assertIs(self.store.file(5, "ann", ((3, ("a", "b")),), PLAIN), True)
        self.assertEqual(self.store.records("ann", 3), (("kept", 1, 1, ("a", "b"), 5, PLAIN),))
        self.assertIs(self.store.file(6, "ann", ((0, ()), (3, ("c",)), (1, ())), LINES), True)
        self.assertEqual(self.store.records("ann", 3)[1], ("kept", 2, 2, ("c",), 6, LINES))
        self.assertEqual(self.store.records("ann", 0), (("kept", 1, 1, (), 6, LINES),))
        self.assertEqual(self.store.records("ann", 1), (("kept", 1, 1, (), 6, LINES),))

    def test_one_of_them_without_room(self):
        for _ in range(50):
            self.assertTrue(self.store.file(1, "ann", ((3, ()),), sized(20000)))
        before = self.store.state()
        for pairs in (((3, ()),), ((0, ()), (3, ())), ((3, ("x",)), (0, ()))):
            self.assertIs(self.store.file(2, "ann", pairs, PLAIN), False)
            self.assertEqual(self.store.state(), before)

    def test_a_notice(self):
        self.assertIsNone(self.store.notice(8, "bo", PLAIN))
        self.assertEqual(self.store.look("bo", 1), ("seen", 2, 1, 0, (("kept", 1, 1, (), 8, PLAIN),), ()))
        self.assertEqual(self.store.look("bo", 0)[4], ())

    def test_the_filter_text(self):
        text = "when all\n  drop\n"
        self.done("ann", ("filter", text))
        self.assertEqual((self.store.filter_of("ann"), self.store.filter_of("bo")), (text, ""))
        self.refused("ann", ("filter", "when"), "text")
        self.assertEqual(self.store.filter_of("ann"), text)
        self.done("ann", ("filter", ""))
        self.assertEqual(self.store.filter_of("ann"), "")


class Seen(Houses):
    def test_look_with_r_with_i_and_with_neither(self):
        self.put(3, "x")
        self.done("ann", ("grant", 3, "bo", "r"))
        self.assertEqual(self.store.look("bo", 3), ("seen",) + self.box(3)[1:])
        self.done("ann", ("grant", 3, "bo", "ri"))
        self.assertEqual(self.store.look("bo", 3)[0], "seen")
        self.done("ann", ("grant", 3, "bo", "i"))
        self.assertEqual(self.store.look("bo", 3), ("room", 999, 1000000 - len(TEXT)))
        self.done("ann", ("grant", 3, "bo", "l"))
        self.assertEqual(self.store.look("bo", 3), ("there",))
        for letters in ("l", "i"):
            self.done("ann", ("grant", 3, "bo", letters))
            self.assertEqual(self.store.since("bo", 3, 0), no("rights"))
            self.assertEqual(self.store.letter("bo", 3, 1), no("rights"))
            self.assertEqual(self.store.records("bo", 3), no("rights"))
        self.done("ann", ("grant", 3, "bo", "r"))
        self.assertEqual(self.store.letter("bo", 3, 1), LETTER)
        self.assertEqual(self.store.letter("bo", 3, 2), no("uid"))
        self.assertEqual(self.store.letter("bo", 3, 0), no("uid"))
        self.assertEqual(self.store.records("bo", 3), (("kept", 1, 1, ("x",), 1, LETTER),))

    def test_since(self):
        for _ in range(4):
            self.put(3)
        self.done("ann", ("flag", 3, (2,), "add", ("x",)), 5)
        self.done("ann", ("take", 3, (1,)), 6)
        self.done("ann", ("grant", 3, "bo", "r"))
        for user, number in (("ann", 3), ("bo", 3)):
            rows = self.store.records(user, number)
            self.assertEqual(self.store.since(user, number, 0), ("since", 5, 6, rows, ((1, 6),)))
            self.assertEqual(self.store.since(user, number, 4), ("since", 5, 6, rows[:1], ((1, 6),)))
            self.assertEqual(self.store.since(user, number, 5), ("since", 5, 6, (), ((1, 6),)))
            self.assertEqual(self.store.since(user, number, 6), ("since", 5, 6, (), ()))
            self.assertEqual(self.store.since(user, number, 7), ("all", 5, 6, rows))
        self.assertEqual(self.store.since("ann", 0, 0), ("since", 1, 0, (), ()))
        self.assertEqual(self.store.since("ann", 0, 1), ("all", 1, 0, ()))


class States(Houses):
    def test_behind_each_deed(self):
        deeds = (("make", "x"), ("put", 3, ("a",), TEXT), ("put", 3, (), TEXT), ("flag", 3, (1,), "set", ("b", "c")),
                 ("grant", 3, "bo", "rs"), ("grant", 3, "cy", "i"), ("copy", 3, (1, 2), 4), ("move", 3, (1,), 5),
                 ("take", 4, (1,)), ("rename", 4, "y"), ("unmake", 5), ("filter", "when all\n  stop\n"),
                 ("grant", 3, "bo", ""))
        told = []
        for deed in deeds:
            self.assertEqual(self.store.do(4, "ann", deed, ())[0], "ok")
            state = self.store.state()
            told.append((state, repr(state)))
            self.assertEqual(store_of(state).state(), state)
            self.assertEqual(self.store.branch().state(), state)
        # What was handed out earlier stays as it is.
        for state, shown in told:
            self.assertEqual(repr(state), shown)
        self.assertEqual(len({shown for _, shown in told}), len(deeds))
        row = self.store.state()[1][0]
        self.assertEqual(row[:3], ("ann", "when all\n  stop\n", tuple(("ann", n) for n in range(6))))
        self.assertEqual([box[:2] + box[3:] for box in row[3]], [
            (0, "inbox", ()), (1, "notices", ()), (2, "sent", ()), (3, "work", (("cy", "li"),)), (4, "y", ())])
        self.assertEqual(self.store.state()[1][1][2][3:], (("ann", 3),))

    def test_a_branch_and_its_store_go_on_apart(self):
        self.put(3)
        for other in (self.store.branch(), store_of(self.store.state())):
            before = self.store.state()
            other.do(2, "ann", ("put", 3, (), TEXT), ())
            other.do(2, "ann", ("make", "z"), ())
            other.do(2, "ann", ("grant", 3, "bo", "l"), ())
            other.do(2, "ann", ("filter", "when all\n  drop\n"), ())
            other.notice(2, "bo", PLAIN)
            self.assertEqual(self.store.state(), before)
            after = other.state()
            self.put(4)
            self.done("ann", ("unmake", 4))
            self.assertEqual(other.state(), after)
            self.setUp()
            self.put(3)


if __name__ == "__main__":
    unittest.main()
