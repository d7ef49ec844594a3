"""Threads: th1 to th7."""

import itertools
import random
import time
import unittest

from oncemail.errors import BadText
from oncemail.threads import below, forest, names_of, path_of, row_of
from tests import oracles
from tests.samples import PLAIN, headed, parted

EXAMPLE = ((4, "c", ("a", "b")), (7, "", ("b",)), (9, "d", ("x",)))


def every_order(rows):
    return itertools.permutations(rows) if len(rows) < 5 else (tuple(rows), tuple(reversed(rows)))


class Case(unittest.TestCase):
    def grows(self, rows, *wanted):
        with self.subTest(rows=rows):
            for row in every_order(rows):
                self.assertEqual(forest(row), wanted)
                self.assertEqual(forest(list(row)), wanted)
            self.assertEqual(oracles.trees(rows), wanted)
            for uid, _, _ in rows:
                for row in every_order(rows):
                    self.assertEqual(names_of(row, uid), oracles.thread_names(rows, uid))
                    self.assertEqual(path_of(list(row), uid), oracles.thread_path(rows, uid))
                    self.assertEqual(below(row, uid), oracles.rows_below(rows, uid))

    def path(self, rows, uid, *names):
        for row in every_order(rows):
            with self.subTest(rows=row, uid=uid):
                self.assertEqual(path_of(row, uid), names)
                self.assertEqual(path_of(list(row), uid), names)

    def names(self, rows, uid, *names):
        for row in every_order(rows):
            with self.subTest(rows=row, uid=uid):
                self.assertEqual(names_of(row, uid), names)
                self.assertEqual(names_of(list(row), uid), names)

    def under(self, rows, uid, *uids):
        for row in every_order(rows):
            with self.subTest(rows=row, uid=uid):
                self.assertEqual(below(row, uid), uids)
                self.assertEqual(below(list(row), uid), uids)


class Rows(Case):
    def test_row_of(self):
        letter = headed(("Id", "m1"), ("Re", "a b"), ("Re", "c"))
        self.assertEqual(row_of(7, letter), (7, "m1", ("a", "b", "c")))
        self.assertEqual(row_of(1, PLAIN), (1, "", ()))
        self.assertEqual(row_of(999999999, headed(("Id", "a b"), ("Re", "a b a"))), (999999999, "", ("a", "b", "a")))
        self.assertEqual(row_of(2, parted(letter)), (2, "", ()))

    def test_uids_that_are_not_there(self):
        for rows in ((), [], EXAMPLE, list(EXAMPLE)):
            for call in (names_of, path_of, below):
                for uid in (1, 5, 10, 1000):
                    with self.subTest(rows=rows, call=call.__name__, uid=uid):
                        with self.assertRaises(BadText) as caught:
                            call(rows, uid)
                        self.assertEqual(caught.exception.reason, "none")

    def test_no_rows(self):
        self.assertEqual(forest(()), ())
        self.assertEqual(forest([]), ())

    def test_what_is_handed_in_stays(self):
        rows = [(9, "d", ("x",)), (7, "", ("b",)), (4, "c", ("a", "b"))]
        kept = list(rows)
        forest(rows)
        for uid in (4, 7, 9):
            names_of(rows, uid)
            path_of(rows, uid)
            below(rows, uid)
        self.assertEqual(rows, kept)


class Example(Case):
    def test_the_example(self):
        self.grows(EXAMPLE, (0, "b", ()), (1, "c", (4,)), (1, "", (7,)), (0, "d", (9,)))
        self.names(EXAMPLE, 7, "a", "b", "c")
        self.names(EXAMPLE, 4, "a", "b", "c")
        self.names(EXAMPLE, 9, "d", "x")
        self.path(EXAMPLE, 7, "a", "b")
        self.path(EXAMPLE, 4, "a", "b")
        self.path(EXAMPLE, 9, "x")
        self.under(EXAMPLE, 4)
        self.under(EXAMPLE, 7)

    def test_the_example_with_a_ring(self):
        rows = EXAMPLE + ((2, "a", ("c",)),)
        self.grows(rows, (0, "a", (2,)), (1, "b", ()), (2, "c", (4,)), (2, "", (7,)), (0, "d", (9,)))
        self.path(rows, 2)
        self.path(rows, 4, "a", "b")
        self.under(rows, 2, 4, 7)


class Parents(Case):
    def test_own_claims(self):
        self.path(((1, "b", ("a",)),), 1, "a")
        self.path(((1, "c", ("a", "b")),), 1, "a", "b")
        self.path(((1, "c", ("b", "a")),), 1, "b", "a")
        self.path(((1, "c", ()),), 1)

    def test_the_smallest_parent_of_own_claims(self):
        rows = ((1, "m", ("c",)), (2, "m", ("a",)), (3, "m", ("b",)))
        self.path(rows, 1, "a")
        self.path(rows, 2, "a")
        self.path(rows, 3, "a")
        self.path(((1, "m", ("B",)), (2, "m", ("a",))), 1, "B")
        self.path(((1, "m", ("10",)), (2, "m", ("9",))), 1, "10")
        self.path(((1, "m", ("aa",)), (2, "m", ("a",))), 1, "a")

    def test_the_smallest_parent_of_other_claims(self):
        rows = ((1, "", ("c", "m")), (2, "", ("a", "m")), (3, "", ("b", "m")))
        for uid in (1, 2, 3):
            self.path(rows, uid, "a", "m")

    def test_an_own_claim_against_others(self):
        rows = ((1, "m", ("z",)), (2, "", ("a", "m")), (3, "x", ("b", "m")))
        self.path(rows, 1, "z")
        self.path(rows, 2, "z", "m")
        self.path(rows, 3, "z", "m")

    def test_an_own_claim_is_only_of_the_last_reference(self):
        rows = ((1, "m", ("a", "b", "c")),)
        self.path(rows, 1, "a", "b", "c")
        self.names(rows, 1, "a", "b", "c", "m")
        rows = ((1, "m", ("a", "b", "c")), (2, "b", ()))
        self.path(rows, 2, "a")

    def test_each_name_has_its_own_parent(self):
        rows = ((1, "c", ("z", "b")), (2, "b", ("x",)), (3, "x", ("y", "x")))
        self.path(rows, 1, "y", "x", "b")
        self.path(rows, 2, "y", "x")
        self.path(rows, 3, "y")

    def test_claims_on_itself(self):
        self.path(((1, "a", ("a",)),), 1)
        self.path(((1, "a", ("a", "a")),), 1)
        self.path(((1, "b", ("a", "a")),), 1, "a")
        self.path(((1, "b", ("a", "b")),), 1, "a")
        self.path(((1, "m", ("m",)), (2, "m", ("z",))), 1, "z")
        self.path(((1, "m", ("m",)), (2, "", ("z", "m"))), 1, "z")
        self.path(((1, "", ("m", "m")), (2, "", ("z", "m"))), 1, "z", "m")
        self.path(((1, "", ("a", "a", "b", "b")),), 1, "a", "b")

    def test_rows_without_an_id_have_no_own_claim(self):
        self.path(((1, "", ("a", "b")), (2, "b", ("c",))), 1, "c", "b")
        self.path(((1, "", ("a",)),), 1, "a")
        self.path(((1, "", ()),), 1)


class Rings(Case):
    def test_rings_of_two_and_three(self):
        rows = ((1, "a", ("b",)), (2, "b", ("a",)))
        self.path(rows, 1)
        self.path(rows, 2, "a")
        self.grows(rows, (0, "a", (1,)), (1, "b", (2,)))
        rows = ((1, "c", ("a",)), (2, "a", ("b",)), (3, "b", ("c",)))
        self.grows(rows, (0, "a", (2,)), (1, "c", (1,)), (2, "b", (3,)))

    def test_the_smallest_name_of_the_ring_alone(self):
        rows = ((1, "y", ("z",)), (2, "z", ("y",)), (3, "a", ("y",)), (4, "b", ("z",)))
        self.path(rows, 1)
        self.path(rows, 2, "y")
        self.path(rows, 3, "y")
        self.path(rows, 4, "y", "z")

    def test_several_rings(self):
        rows = ((1, "a", ("b",)), (2, "b", ("a",)), (3, "c", ("d",)), (4, "d", ("c",)))
        self.grows(rows, (0, "a", (1,)), (1, "b", (2,)), (0, "c", (3,)), (1, "d", (4,)))

    def test_rings_of_references(self):
        rows = ((1, "", ("a", "b", "c", "a")),)
        self.path(rows, 1, "a")
        self.names(rows, 1, "a", "b", "c")
        self.path(((1, "", ("c", "b", "a", "c")),), 1, "a", "c")
        self.path(((1, "x", ("b", "a", "b")),), 1, "a", "b")

    def test_a_long_ring(self):
        rows = tuple((n + 1, f"n{n:04}", (f"n{(n + 1) % 1000:04}",)) for n in range(1000))
        self.assertEqual(path_of(rows, 1), ())
        self.assertEqual(path_of(rows, 1000), ("n0000",))
        self.assertEqual(len(path_of(rows, 2)), 999)
        self.assertEqual(below(rows, 1), tuple(range(2, 1001)))
        self.assertEqual(below(rows, 2), ())
        self.assertEqual(len(names_of(rows, 500)), 1000)
        self.assertEqual(forest(rows)[:2], ((0, "n0000", (1,)), (1, "n0999", (1000,))))


class Threads(Case):
    def test_names(self):
        rows = ((1, "a", ()), (2, "b", ("a",)), (3, "c", ("q",)), (4, "", ("a",)), (5, "", ()), (6, "", ("q", "r")))
        self.names(rows, 1, "a", "b")
        self.names(rows, 2, "a", "b")
        self.names(rows, 3, "c", "q", "r")
        self.names(rows, 4, "a", "b")
        self.names(rows, 5)
        self.names(rows, 6, "c", "q", "r")

    def test_one_name(self):
        self.names(((1, "a", ()),), 1, "a")
        self.names(((1, "", ("a",)),), 1, "a")
        self.names(((1, "", ()), (2, "", ())), 1)

    def test_a_row_without_an_id_is_in_the_thread_of_its_last_reference(self):
        rows = ((1, "m", ("a",)), (2, "m", ("b",)), (3, "", ("c", "b")), (4, "x", ("b", "m")))
        for uid in (1, 2, 4):
            self.names(rows, uid, "a", "m", "x")
        self.names(rows, 3, "b", "c")

    def test_references_need_not_be_in_the_thread_of_the_row(self):
        rows = ((1, "m", ("a", "b")), (2, "b", ("z",)))
        self.names(rows, 1, "b", "m", "z")
        self.names(rows, 2, "b", "m", "z")
        self.path(rows, 1, "z", "b")

    def test_several_rows_with_one_id(self):
        rows = ((3, "a", ()), (1, "a", ("z",)), (2, "b", ("a",)))
        self.grows(rows, (0, "a", (1, 3)), (1, "b", (2,)))
        self.path(rows, 3, "z")
        self.under(rows, 1, 2)
        self.under(rows, 3, 2)
        self.under(rows, 2)


class Forests(Case):
    def test_single_rows(self):
        self.grows(((5, "a", ()),), (0, "a", (5,)))
        self.grows(((5, "", ()),), (0, "", (5,)))
        self.grows(((5, "a", ("b",)),), (0, "a", (5,)))
        self.grows(((5, "", ("b",)),), (0, "", (5,)))
        self.grows(((5, "", ("a", "b", "c")),), (0, "", (5,)))

    def test_lost_names_with_no_node_below(self):
        self.grows(((1, "a", ()), (2, "m", ("z", "y")), (3, "m", ("x",))), (0, "a", (1,)), (0, "m", (2, 3)))

    def test_lost_names_with_one_node_below(self):
        self.grows(((1, "c", ("a", "b")), (2, "d", ("c",))), (0, "c", (1,)), (1, "d", (2,)))
        self.grows(((1, "a", ()), (2, "c", ("a", "b"))), (0, "a", (1,)), (1, "c", (2,)))
        self.grows(((1, "a", ()), (2, "", ("a", "b"))), (0, "a", (1,)), (1, "", (2,)))

    def test_lost_names_with_several_nodes_below(self):
        self.grows(((1, "c", ("a",)), (2, "d", ("a",))), (0, "a", ()), (1, "c", (1,)), (1, "d", (2,)))
        self.grows(((1, "", ("a",)), (2, "", ("a",))), (0, "a", ()), (1, "", (1,)), (1, "", (2,)))
        self.grows(((1, "c", ("a", "b")), (2, "d", ("a", "b"))), (0, "b", ()), (1, "c", (1,)), (1, "d", (2,)))
        self.grows(((1, "c", ("a", "b")), (2, "d", ("a", "q"))), (0, "a", ()), (1, "c", (1,)), (1, "d", (2,)))
        self.grows(((1, "c", ("r", "a", "b")), (2, "d", ("a", "b")), (3, "e", ("r", "a"))),
                   (0, "a", ()), (1, "b", ()), (2, "c", (1,)), (2, "d", (2,)), (1, "e", (3,)))
        self.grows(((1, "c", ("a", "b")), (2, "", ("a", "b")), (3, "e", ("a", "q"))),
                   (0, "a", ()), (1, "b", ()), (2, "c", (1,)), (2, "", (2,)), (1, "e", (3,)))

    def test_a_name_that_is_not_lost_is_shown(self):
        self.grows(((1, "a", ()), (2, "b", ("a",)), (3, "c", ("b",))), (0, "a", (1,)), (1, "b", (2,)), (2, "c", (3,)))

    def test_children_in_the_order_of_the_smallest_uid_below(self):
        self.grows(((5, "a", ()), (9, "b", ("a",)), (2, "c", ("b",)), (3, "d", ("a",))),
                   (0, "a", (5,)), (1, "b", (9,)), (2, "c", (2,)), (1, "d", (3,)))
        self.grows(((9, "a", ()), (1, "z", ("a",)), (5, "b", ())), (0, "a", (9,)), (1, "z", (1,)), (0, "b", (5,)))
        self.grows(((3, "", ()), (2, "z", ()), (1, "", ("q",))), (0, "", (1,)), (0, "z", (2,)), (0, "", (3,)))
        self.grows(((7, "", ("p",)), (4, "k", ("p",)), (6, "", ("p",)), (5, "l", ("p",))),
                   (0, "p", ()), (1, "k", (4,)), (1, "l", (5,)), (1, "", (6,)), (1, "", (7,)))

    def test_order_is_by_number_and_not_by_text(self):
        self.grows(((10, "a", ()), (9, "b", ()), (100, "", ())), (0, "b", (9,)), (0, "a", (10,)), (0, "", (100,)))
        self.grows(((10, "a", ()), (9, "a", ()), (100, "a", ())), (0, "a", (9, 10, 100)))

    def test_words_that_look_like_something_else(self):
        self.grows(((1, "1", ("2",)), (2, "2", ("-",)), (3, "", ("1",))), (0, "2", (2,)), (1, "1", (1,)), (2, "", (3,)))
        self.grows(((1, "None", ()), (2, "", ("None",))), (0, "None", (1,)), (1, "", (2,)))

    def test_a_chain_of_1000_rows(self):
        rows = [(1000 - n, f"n{n}", (f"n{n - 1}",) if n else ()) for n in range(1000)]
        self.assertEqual(forest(rows), tuple((n, f"n{n}", (1000 - n,)) for n in range(1000)))
        self.assertEqual(path_of(rows, 1), tuple(f"n{n}" for n in range(999)))
        self.assertEqual(below(rows, 1000), tuple(range(1, 1000)))
        self.assertEqual(below(tuple(rows), 500), tuple(range(1, 500)))
        self.assertEqual(below(rows, 1), ())
        self.assertEqual(names_of(rows, 500), tuple(sorted(f"n{n}" for n in range(1000))))

    def test_a_long_chain_of_references(self):
        words = tuple(f"w{n}" for n in range(5000))
        rows = ((1, "m", words), (2, "", words[:2000]))
        self.assertEqual(forest(rows), ((0, "w1999", ()), (1, "m", (1,)), (1, "", (2,))))
        self.assertEqual(path_of(rows, 1), words)
        self.assertEqual(path_of(rows, 2), words[:2000])
        self.assertEqual(names_of(rows, 2), tuple(sorted(words + ("m",))))
        self.assertEqual(below(rows, 1), ())

    def test_many_rows_below_one_name(self):
        rows = [(n, "" if n % 2 else f"n{n}", ("a", "b")) for n in range(1, 1001)]
        wanted = [(0, "b", ())] + [(1, row[1], (row[0],)) for row in rows]
        self.assertEqual(forest(rows[::-1]), tuple(wanted))

    def test_long_chains_in_many_rows_take_no_long_time(self):
        words = tuple(f"w{n}" for n in range(60))
        rows = [(n, f"n{n}", words[:n % 60] + (f"n{n - 1}",)) for n in range(1, 1001)]
        begin = time.perf_counter()
        forest(rows)
        for uid in (1, 500, 1000):
            names_of(rows, uid)
            path_of(rows, uid)
            below(rows, uid)
        self.assertLess(time.perf_counter() - begin, 20)


class Below(Case):
    def test_rows_whose_path_has_the_id(self):
        rows = ((1, "a", ()), (2, "b", ("a",)), (3, "c", ("b",)), (4, "", ("b",)), (5, "", ("a",)), (6, "d", ()),
                (7, "", ("d",)), (8, "b", ()))
        self.under(rows, 1, 2, 3, 4, 5, 8)
        self.under(rows, 2, 3, 4)
        self.under(rows, 8, 3, 4)
        self.under(rows, 3)
        self.under(rows, 4)
        self.under(rows, 5)
        self.under(rows, 6, 7)

    def test_through_lost_names(self):
        rows = ((1, "a", ()), (2, "c", ("a", "b")), (3, "", ("a", "b", "q")))
        self.under(rows, 1, 2, 3)
        self.path(rows, 2, "a", "b")
        self.path(rows, 3, "a", "b", "q")

    def test_rows_with_one_id_are_not_below_each_other(self):
        self.under(((1, "a", ()), (2, "a", ("z",))), 1)
        self.under(((1, "a", ("a",)), (2, "a", ())), 1)


class Chance(Case):
    def test_rows_by_chance(self):
        chance = random.Random(9)
        for _ in range(400):
            words = list("abcdefgh"[:chance.randrange(2, 9)])
            uids = chance.sample(range(1, 40), chance.randrange(1, 9))
            rows = tuple((uid, chance.choice(words + [""]),
                          tuple(chance.choice(words) for _ in range(chance.choice((0, 0, 1, 1, 2, 3)))))
                         for uid in uids)
            self.assertEqual(forest(rows), oracles.trees(rows), rows)
            self.assertEqual(forest(list(reversed(rows))), oracles.trees(rows), rows)
            for uid in uids:
                self.assertEqual(names_of(rows, uid), oracles.thread_names(rows, uid), rows)
                self.assertEqual(path_of(rows, uid), oracles.thread_path(rows, uid), rows)
                self.assertEqual(below(rows, uid), oracles.rows_below(rows, uid), rows)


if __name__ == "__main__":
    unittest.main()
