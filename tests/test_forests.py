"""A set of rows that changes: th8, and th1 to th7 at great sets."""

import itertools
import random
import time
import unittest

from oncemail.errors import BadText
from oncemail.forests import Forest
from oncemail.threads import below, forest, names_of, path_of
from tests import oracles
from tests.test_threads import EXAMPLE


def grown(rows):
    held = Forest()
    for uid, word, references in rows:
        held.put(uid, word, references)
    return held


class Case(unittest.TestCase):
    def alike(self, held, rows):
        """All answers of a Forest are those of this set of rows, by the slow words of the document."""
        rows = tuple(sorted(rows))
        self.assertEqual(held.rows(), rows)
        self.assertEqual(held.trees(), oracles.trees(rows))
        for uid, _, _ in rows:
            self.assertEqual(held.names(uid), oracles.thread_names(rows, uid), rows)
            self.assertEqual(held.path(uid), oracles.thread_path(rows, uid), rows)
            self.assertEqual(held.below(uid), oracles.rows_below(rows, uid), rows)

    def refused(self, reason, call, *given):
        with self.assertRaises(BadText) as caught:
            call(*given)
        self.assertEqual(caught.exception.reason, reason)


class Changes(Case):
    def test_no_rows(self):
        held = Forest()
        self.assertEqual((held.rows(), held.trees()), ((), ()))
        for call in (held.take, held.names, held.path, held.below):
            self.refused("none", call, 1)

    def test_the_example(self):
        held = grown(EXAMPLE)
        self.assertEqual(held.trees(), ((0, "b", ()), (1, "c", (4,)), (1, "", (7,)), (0, "d", (9,))))
        self.assertEqual(held.names(7), ("a", "b", "c"))
        self.assertEqual(held.path(7), ("a", "b"))
        self.assertIsNone(held.put(2, "a", ("c",)))
        self.assertEqual(held.path(2), ())
        self.assertEqual(held.below(2), (4, 7))
        self.assertIsNone(held.take(2))
        self.alike(held, EXAMPLE)

    def test_put_and_take_in_every_order(self):
        rows = EXAMPLE + ((2, "a", ("c",)),)
        for order in itertools.permutations(rows):
            held = Forest()
            for count, (uid, word, references) in enumerate(order):
                held.put(uid, word, references)
                self.alike(held, order[:count + 1])
            for count, (uid, _, _) in enumerate(order):
                held.take(uid)
                self.alike(held, order[count + 1:])

    def test_a_uid_that_was_taken_may_be_put_with_another_row(self):
        held = grown(EXAMPLE)
        held.take(4)
        held.put(4, "", ())
        self.alike(held, ((4, "", ()),) + EXAMPLE[1:])
        self.assertEqual(held.names(4), ())

    def test_refused_calls_change_nothing(self):
        held = grown(EXAMPLE)
        self.refused("there", held.put, 4, "z", ("y",))
        self.refused("there", held.put, 7, "", ())
        self.alike(held, EXAMPLE)
        for call in (held.take, held.names, held.path, held.below):
            for uid in (1, 5, 10, 999999999):
                self.refused("none", call, uid)
        self.alike(held, EXAMPLE)
        held.take(4)
        for call in (held.take, held.names, held.path, held.below):
            self.refused("none", call, 4)
        self.alike(held, EXAMPLE[1:])

    def test_by_chance(self):
        chance = random.Random(81)
        for _ in range(60):
            words = list("abcdefg"[:chance.randrange(2, 8)])
            held, rows = Forest(), {}
            for _ in range(25):
                uid = chance.randrange(1, 9)
                word = chance.choice(words + [""])
                references = tuple(chance.choice(words) for _ in range(chance.choice((0, 1, 1, 2, 3))))
                if chance.random() < 0.6:
                    if uid in rows:
                        self.refused("there", held.put, uid, word, references)
                    else:
                        held.put(uid, word, references)
                        rows[uid] = (uid, word, references)
                elif uid in rows:
                    held.take(uid)
                    del rows[uid]
                else:
                    self.refused("none", held.take, uid)
                self.alike(held, rows.values())


class Branches(Case):
    def test_they_go_on_apart(self):
        held = grown(EXAMPLE)
        other = held.branch()
        self.assertIsInstance(other, Forest)
        self.alike(other, EXAMPLE)
        held.put(2, "a", ("c",))
        self.alike(other, EXAMPLE)
        other.take(9)
        other.put(1, "x", ())
        self.alike(other, EXAMPLE[:2] + ((1, "x", ()),))
        self.alike(held, EXAMPLE + ((2, "a", ("c",)),))
        last = other.branch()
        other.take(4)
        self.alike(last, EXAMPLE[:2] + ((1, "x", ()),))
        self.alike(other, (EXAMPLE[1], (1, "x", ())))

    def test_of_nothing(self):
        held = Forest()
        other = held.branch()
        other.put(1, "a", ())
        self.alike(held, ())
        self.alike(other, ((1, "a", ()),))


def chain(count):
    return [(n + 1, f"n{n}", (f"n{n - 1}",) if n else ()) for n in range(count)]


def turned(rows):
    """The rows with their uids in the other order."""
    return [(len(rows) + 1 - uid, word, references) for uid, word, references in rows]


class GreatSets(Case):
    def setUp(self):
        self.begin = time.perf_counter()

    def tearDown(self):
        self.assertLess(time.perf_counter() - self.begin, 20)

    def both(self, rows, uids):
        """The forest, and names, path and below of some uids; by the functions and by a Forest."""
        held = grown(rows)
        trees = forest(rows)
        self.assertEqual(held.trees(), trees)
        self.assertEqual(forest(tuple(reversed(rows))), trees)
        answers = {}
        for uid in uids:
            answers[uid] = (names_of(rows, uid), path_of(rows, uid), below(rows, uid))
            self.assertEqual((held.names(uid), held.path(uid), held.below(uid)), answers[uid])
        return trees, answers

    def test_a_chain(self):
        for turn in (False, True):
            rows = turned(chain(1000)) if turn else chain(1000)
            place = {uid: at for at, (uid, _, _) in enumerate(rows)}
            trees, answers = self.both(rows, (1, 2, 400, 999, 1000))
            self.assertEqual(trees, tuple((at, word, (uid,)) for at, (uid, word, _) in enumerate(rows)))
            for uid, (names, path, under) in answers.items():
                self.assertEqual(names, tuple(sorted(f"n{n}" for n in range(1000))))
                self.assertEqual(path, tuple(f"n{n}" for n in range(place[uid])))
                self.assertEqual(under, tuple(sorted(row[0] for row in rows[place[uid] + 1:])))

    def test_all_answers_of_a_chain_by_a_forest(self):
        held = grown(chain(1000))
        for uid in range(1, 1001):
            self.assertEqual(len(held.names(uid)), 1000)
            self.assertEqual(len(held.path(uid)), uid - 1)
            self.assertEqual(held.below(uid), tuple(range(uid + 1, 1001)))

    def test_a_chain_that_is_taken_apart(self):
        held = grown(chain(1000))
        held.take(500)
        # The name n499 is lost now and has lost its claim, and n500 takes its place.
        self.assertEqual(held.trees()[498:501], ((498, "n498", (499,)), (0, "n500", (501,)), (1, "n501", (502,))))
        self.assertEqual(held.path(501), ("n499",))
        held.take(501)
        self.assertEqual([row[0] for row in held.trees()], list(range(499)) + list(range(499)))
        for uid in range(2, 1000, 2):
            if uid != 500:
                held.take(uid)
        self.assertEqual(held.trees(), forest(held.rows()))
        self.assertEqual([row[0] for row in held.trees()], [0] * 499 + [1])
        held.put(500, "", ())
        self.assertEqual(held.names(500), ())

    def test_a_ring(self):
        rows = [(n + 1, f"n{n:03}", (f"n{(n + 1) % 1000:03}",)) for n in range(1000)]
        for row in (rows, turned(rows)):
            trees, answers = self.both(row, (1, 2, 500, 999, 1000))
            least = [uid for uid, word, _ in row if word == "n000"][0]
            self.assertEqual(trees[0], (0, "n000", (least,)))
            self.assertEqual([node[0] for node in trees], list(range(1000)))
            self.assertEqual([node[1] for node in trees[1:]], [f"n{n:03}" for n in range(999, 0, -1)])
            for uid, (names, path, under) in answers.items():
                self.assertEqual(names, tuple(f"n{n:03}" for n in range(1000)))
                self.assertEqual(len(path) + len(under), 999)

    def test_many_rows_below_one_lost_name(self):
        rows = [(n, f"n{n}" if n % 3 else "", ("lost",)) for n in range(1, 1001)]
        trees, answers = self.both(rows, (1, 3, 1000))
        self.assertEqual(trees, ((0, "lost", ()),) + tuple((1, word, (uid,)) for uid, word, _ in rows))
        words = tuple(sorted({word for _, word, _ in rows if word} | {"lost"}))
        for names, path, under in answers.values():
            self.assertEqual((names, path, under), (words, ("lost",), ()))

    def test_a_long_chain_of_lost_names_with_rows_below(self):
        words = tuple(f"w{n}" for n in range(6000))
        rows = [(1, "m", words)] + [(n, f"r{n}", (words[6 * n],)) for n in range(2, 900)]
        rows += [(n, "", (words[n],)) for n in range(900, 1001)]
        trees, answers = self.both(rows, (1, 2, 500, 950))
        self.assertEqual(trees[0], (0, "w12", ()))
        self.assertEqual([node[1:] for node in trees if node[2] == (1,)], [("m", (1,))])
        self.assertEqual(answers[1][1], words)
        self.assertEqual(answers[500][1], words[:3001])
        self.assertEqual(answers[950][1], words[:951])
        self.assertEqual(len(answers[2][0]), 6000 + 1 + 898)

    def test_very_many_references_in_many_rows(self):
        words = [f"w{n}" for n in range(2000)]
        rows = [(n, f"m{n}", tuple(words[n:n + 500])) for n in range(1, 1001)]
        trees, answers = self.both(rows, (1, 500, 1000))
        self.assertEqual(answers[1000][1], tuple(words[1:1500]))
        self.assertEqual(len(answers[1][0]), 1499 + 1000)
        self.assertEqual(len([node for node in trees if node[2]]), 1000)

    def test_answers_behind_each_of_many_calls(self):
        held = Forest()
        for uid, word, references in chain(1000):
            held.put(uid, word, references)
            self.assertEqual(len(held.names(uid)), uid)
        for uid in range(1, 1000):
            held.take(uid)
            self.assertEqual(len(held.below(uid + 1)), 1000 - uid - 1)


class Kept(Case):
    def test_what_is_handed_out_may_be_changed(self):
        held = grown(EXAMPLE)
        for answer in (held.rows(), held.trees(), held.names(4), held.path(4), held.below(4)):
            self.assertIs(type(answer), tuple)
        self.alike(held, EXAMPLE)


if __name__ == "__main__":
    unittest.main()
