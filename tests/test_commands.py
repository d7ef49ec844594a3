"""k4, c8: deeds as words and back."""

import random
import unittest

from oncemail.commands import deed_of, words_of
from oncemail.names import is_deed
from oncemail.talk import Listener, say

DEEDS = (
    (("make", "work"), "make work", None),
    (("unmake", 3), "unmake 3", None),
    (("unmake", -2), "unmake -2", None),
    (("rename", 0, "w2"), "rename 0 w2", None),
    (("grant", 3, "bo", "lr"), "grant 3 bo lr", None),
    (("grant", -1, "bo", ""), "grant -1 bo -", None),
    (("put", 0, (), "A: b\n\n"), "put 0 -", "A: b\n\n"),
    (("put", -7, ("a", "b"), ""), "put -7 a,b", ""),
    (("flag", 0, (1, 2, 3), "add", ("red",)), "flag 0 1:3 add red", None),
    (("flag", 0, (-4, -2, 5), "set", ()), "flag 0 -4,-2,5 set -", None),
    (("copy", 0, (1,), -1), "copy 0 1 -1", None),
    (("copy", 4, (), 0), "copy 4 - 0", None),
    (("move", -1, (7, 8), 3), "move -1 7:8 3", None),
    (("take", 3, (2,)), "take 3 2", None),
    (("leave", 9), "leave 9", None),
    (("filter", ""), "filter", ""),
    (("filter", "when all\n  stop\n"), "filter", "when all\n  stop\n"),
    (("send", ("ann@oak", "all@elm"), "x"), "send ann@oak,all@elm", "x"),
    (("send", (), ""), "send -", ""),
    (("send", ("no address?",), "x"), "send -", "x"),
    (("send", ("ann@oak", ""), "x"), "send -", "x"),
    (("send", ("a,b",), "x"), "send -", "x"),
    (("send", ("a\nb", "c"), "x"), "send -", "x"),
    (("send", ("what", "@@"), "x"), "send what,@@", "x"),
    (("back", 1, 17), "back 1 17", None),
)


class Words(unittest.TestCase):
    def test_each_deed_as_words_and_back(self):
        for deed, line, literal in DEEDS:
            self.assertTrue(is_deed(deed), deed)
            words = tuple(line.split())
            self.assertEqual(words_of(deed), (words, literal))
            wanted = ("send", (), deed[2]) if line == "send -" else deed
            self.assertEqual(deed_of(words, literal), wanted)
            # As it is heard on a line.
            commands = Listener(20000).hear(say(("do", "5") + words, literal))
            self.assertEqual(deed_of(commands[0][0][2:], commands[0][1]), wanted)

    def test_words_left_out_or_put_in(self):
        for _, line, literal in DEEDS:
            words = tuple(line.split())
            for at in range(len(words) + 1):
                self.assertIsNone(deed_of(words[:at] + words[at + 1:] if at < len(words) else words + ("x",), literal))
                self.assertIsNone(deed_of(words[:at] + ("1",) + words[at:], literal))
        self.assertIsNone(deed_of((), None))
        self.assertIsNone(deed_of((), "x"))

    def test_literals(self):
        for _, line, literal in DEEDS:
            self.assertIsNone(deed_of(tuple(line.split()), "x" if literal is None else None), line)
        for line in ("make work", "leave 3", "back 1 1"):
            self.assertIsNone(deed_of(tuple(line.split()), ""))

    def test_words_changed(self):
        for line in ("Make work", "mak work", "unmake x", "unmake -0", "unmake 01", "unmake 1000000000", "unmake -",
                     "rename - x", "grant x bo l", "flag 0 1,2 add x", "flag 0 0 add x", "flag 0 x add x",
                     "flag - 1 add x", "copy 0 2:1 0", "copy 0 1 x", "copy x 1 0", "move 0 1,1 0", "take 0 1:1",
                     "take 0 1,", "leave +1", "back 0 1", "back -1 1", "back 1 -1", "back x 1", "back 1 01",
                     "back 1000000000 1", "hello ann", "boxes", "do make x", "bye"):
            self.assertIsNone(deed_of(tuple(line.split()), None), line)
        for line in ("put x -", "put - -", "put 00 a"):
            self.assertIsNone(deed_of(tuple(line.split()), "x"), line)

    def test_what_k4_lets_though_it_is_no_deed(self):
        # Whether a name, a flag, a mode is one, is the deed's matter.
        for line, deed in (("make Work!", ("make", "Work!")), ("rename 1 -", ("rename", 1, "-")),
                           ("grant 1 Bo zz", ("grant", 1, "Bo", "zz")), ("flag 0 - sub b,a", ("flag", 0, (), "sub", ("b", "a"))),
                           ("flag 0 - add a,,b", ("flag", 0, (), "add", ("a", "", "b"))),
                           ("back 1 0", ("back", 1, 0)), ("grant 1 bo -", ("grant", 1, "bo", ""))):
            self.assertEqual(deed_of(tuple(line.split()), None), deed)
        self.assertEqual(deed_of(("put", "0", "b,a"), "x"), ("put", 0, ("b", "a"), "x"))
        self.assertEqual(deed_of(("send", ",@"), "x"), ("send", ("", "@"), "x"))

    def test_by_chance(self):
        chance = random.Random(8)
        for _ in range(2000):
            uids = tuple(sorted({chance.randrange(-5, 30) for _ in range(chance.randrange(0, 9))} - {0}))
            flags = tuple(sorted(chance.sample("abcdefgh", chance.randrange(0, 5))))
            box = chance.randrange(-4, 9)
            deed = chance.choice((("flag", box, uids, "drop", flags), ("copy", box, uids, chance.randrange(-4, 9)),
                                  ("take", box, uids), ("put", box, flags, "A: b\n\n"),
                                  ("grant", box, "bo", chance.choice(("", "l", "sie")))))
            words, literal = words_of(deed)
            self.assertTrue(all(word != "" and " " not in word for word in words))
            self.assertEqual(deed_of(words, literal), deed)


if __name__ == "__main__":
    unittest.main()
