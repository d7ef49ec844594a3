"""s1 to s10 by chance: a store beside the oracle; every two reasons at once."""

import random
import unittest

from oncemail.letters import read_letter, write_letter
from oncemail.store import Store, store_of
from tests.samples import sized
from tests.store_oracle import ORDER, Oracle

USERS = ("ann", "bo", "cy")
FLAGS = tuple("abcdefghij")
TEXTS = ("A: b\n\n", "From: ann@oak\n\nx\n", "no letter", "", "A: 7%\n\n")


def any_flags(chance):
    return tuple(sorted(chance.sample(FLAGS, chance.choice((0, 0, 1, 2, 8, 9)))))


def any_deed(chance, store, user):
    kind = chance.choice(("make", "unmake", "rename", "grant", "grant", "put", "put", "put", "flag", "flag", "copy",
                          "copy", "move", "move", "take", "leave", "filter", "send", "wrong"))
    number = chance.choice((0, 1, 2, 3, 3, 4, 4, 5, 6, 7, 9, -1, -2, -3, -9))
    goal = chance.choice((0, 2, 3, 3, 4, 4, 5, 6, 9, number, -1, -2))
    name = chance.choice(("work", "home", "inbox", "sent", "x1"))
    box = store.records(user, number if number >= 0 else 0)
    uids = [record[1] for record in box if record[0] == "kept"] + [-1, -2, -4, 77]
    row = tuple(sorted(chance.sample(uids, min(len(uids), chance.choice((0, 1, 1, 2, 3))))))
    return {
        "make": ("make", name),
        "unmake": ("unmake", number),
        "rename": ("rename", number, name),
        "grant": ("grant", number, chance.choice(USERS + ("zoe",)), chance.choice(
            ("", "l", "r", "s", "i", "e", "a", "lr", "si", "ie", "ri", "lrsie", "lrsiea"))),
        "put": ("put", number, any_flags(chance), chance.choice(TEXTS[:2] * 3 + TEXTS)),
        "flag": ("flag", number, row, chance.choice(("add", "drop", "set")), any_flags(chance)),
        "copy": ("copy", number, row, goal),
        "move": ("move", number, row, goal),
        "take": ("take", number, row),
        "leave": ("leave", number),
        "filter": ("filter", chance.choice(("", "when all\n  keep\n", "when\n", "x"))),
        "send": ("send", (), "A: b\n\n"),
        "wrong": chance.choice((("make", "A"), ("make",), (), "make", None, ("flag", 0, (2, 1), "add", ()),
                                ("put", True, (), "A: b\n\n"), ("take", 0, (0,)), ("grant", 0, "bo", "rl"),
                                ("back", 1, 1), ("rename", 3, "x", "y"), ("copy", 0, (1,), "0"))),
    }[kind]


def any_values(chance, store, user):
    """Values of earlier deeds, of boxes and uids that stand or stand no more."""
    values = []
    for k in range(1, 5):
        number = chance.choice((0, 3, 4, 5, 9))
        kind = chance.randrange(3)
        if kind == 1:
            values.append((k, ("box", number)))
        elif kind == 2:
            values.append((k, ("uid", number, chance.choice((1, 2, 3, 77)))))
    return tuple(values)


class Chance(unittest.TestCase):
    def run_one(self, seed, steps, pairs):
        chance = random.Random(seed)
        store, oracle = Store(USERS), Oracle(USERS)
        # Some runs begin with full boxes, and with a user who has nearly all his boxes.
        if seed % 3 == 0:
            for user in USERS:
                for number in (0, 2):
                    for _ in range(chance.choice((49, 50))):
                        letter = sized(20000)
                        self.assertEqual(store.file(0, user, ((number, ()),), letter),
                                         oracle.file(0, user, ((number, ()),), letter))
                for other in USERS:
                    letters = chance.choice(("", "r", "lr", "lrs", "lri", "lre", "lrsie"))
                    deed = ("grant", 0, other, letters)
                    self.assertEqual(store.do(0, user, deed, ()), oracle.do(0, user, deed, ())[0])
        if seed % 3 == 1:
            for n in range(57):
                self.assertEqual(store.do(0, "ann", ("make", f"b{n}"), ()),
                                 oracle.do(0, "ann", ("make", f"b{n}"), ())[0])
        for turn in range(steps):
            user = chance.choice(USERS)
            if chance.random() < 0.1:
                own = [row[0] for row in store.boxes(user) if row[1] == user]
                letter = read_letter(TEXTS[chance.randrange(2)])
                row = tuple((n, any_flags(chance)[:8]) for n in sorted(chance.sample(own, chance.randrange(0, 3))))
                self.assertIs(store.file(turn, user, row, letter), oracle.file(turn, user, row, letter))
                store.notice(turn, user, letter)
                oracle.numbers[user][1].put([((), turn, letter)])
            deed = any_deed(chance, store, user)
            values = any_values(chance, store, user)
            before = store.state()
            answer = store.do(turn, user, deed, values)
            wanted, due = oracle.do(turn, user, deed, values)
            self.assertEqual(answer, wanted, (deed, values))
            kind = deed[0] if isinstance(deed, tuple) and deed != () else None
            for one in due:
                for other in due:
                    pairs.setdefault((kind, one, other), 0)
                    pairs[(kind, one, other)] += 1
            if answer[0] == "no":
                self.assertEqual(store.state(), before)
            self.assertEqual(store.state(), oracle.state())
            self.assertEqual(store.boxes(user), oracle.list(user))
        self.assertEqual(store_of(store.state()).state(), store.state())

    def test_deeds_by_chance(self):
        pairs = {}
        for seed in range(150):
            self.run_one(seed, 80 if seed % 3 == 0 else 120, pairs)
        # Each reason at each deed that has it, and two at once where they can be.
        due = {"make": "many there", "unmake": "none rights kept", "rename": "none rights kept there",
               "grant": "none rights kept", "put": "text many none rights full",
               "flag": "many none rights uid full", "copy": "none rights uid full",
               "move": "none rights uid there full", "take": "none rights uid", "leave": "none kept",
               "filter": "text"}
        apart = {("unmake", "none", "rights"), ("unmake", "none", "kept"), ("unmake", "rights", "kept"),
                 ("rename", "none", "rights"), ("rename", "none", "kept"), ("rename", "rights", "kept"),
                 ("put", "text", "full"), ("put", "none", "rights"), ("put", "none", "full"),
                 ("flag", "none", "rights"), ("flag", "none", "uid"), ("flag", "none", "full"),
                 ("copy", "none", "full"), ("move", "none", "there"), ("move", "none", "full"),
                 ("take", "none", "rights"), ("take", "none", "uid"), ("leave", "none", "kept"), ("grant", "none", "kept")}
        for kind, words in due.items():
            for one in words.split():
                for other in words.split():
                    if ORDER.index(one) <= ORDER.index(other) and (kind, one, other) not in apart:
                        self.assertIn((kind, one, other), pairs)

    def test_branches_go_on_apart(self):
        for seed in range(10):
            chance = random.Random(100 + seed)
            store = Store(USERS)
            for turn in range(80):
                user = chance.choice(USERS)
                store.do(turn, user, any_deed(chance, store, user), any_values(chance, store, user))
            before = store.state()
            others = [store.branch(), store_of(before)]
            rows = []
            for turn in range(80, 160):
                user = chance.choice(USERS)
                rows.append((turn, user, any_deed(chance, store, user), any_values(chance, store, user)))
            wanted = [store.do(*row) for row in rows]
            for other in others:
                self.assertEqual(other.state(), before)
                self.assertEqual([other.do(*row) for row in rows], wanted)
                self.assertEqual(other.state(), store.state())
            self.assertNotEqual(before, store.state())


class Letters(unittest.TestCase):
    def test_texts(self):
        self.assertEqual(write_letter(read_letter(TEXTS[0])), TEXTS[0])


if __name__ == "__main__":
    unittest.main()
