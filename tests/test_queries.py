"""Which things are queries, and their texts: q1 to q3."""

import random
import unittest

from oncemail.queries import is_query, read_query, write_query
from tests import query_oracles as oracles

ANN = ("at", "ann", "oak")
ALL = ("all",)
TESTS = {
    "all": ALL,
    "from ann@oak": ("from", ANN),
    "to b0@elm": ("to", ("at", "b0", "elm")),
    "cc ann@oak": ("cc", ANN),
    "has X-Ray": ("has", "X-Ray"),
    "has Subject": ("has", "Subject"),
    "header Subject-Of lamps": ("header", "Subject-Of", "lamps"),
    "subject lamps": ("header", "Subject", "lamps"),
    "header Id 7": ("header", "Id", "7"),
    "text 7a": ("text", "7a"),
    "term not": ("term", "not"),
    "size 1000": ("size", 1000),
    "since 10000": ("since", 10000),
    "uid 5": ("uid", 5, 5),
    "uid 5-6": ("uid", 5, 6),
    "uid 5-": ("uid", 5, 999999999),
    "uid 1-": ("uid", 1, 999999999),
    "uid 999999999": ("uid", 999999999, 999999999),
    "uid 999999998-": ("uid", 999999998, 999999999),
    "uid 5-999999998": ("uid", 5, 999999998),
    "flag red": ("flag", "red"),
    "thread (": ("thread", "("),
    "thread Ann@Oak": ("thread", "Ann@Oak"),
}
# Things that are no tests, each beside one that is just right.
WRONG = [
    (ALL, [("All",), (), ("all", ()), ("all", "all"), "all", ["all"], ("nothing",), (1,), (True,),
           (None,), ((),), (ALL,)]),
    (("from", ANN), [("from",), ("from", "ann@oak"), ("from", ANN, ANN), ("from", ("at", "ann")), ("From", ANN),
                     ("from", ("at", "ann", "oak", "")), ("from", ["at", "ann", "oak"]), ("from", ("to", "ann", "oak")),
                     ("from", ("at", "Ann", "oak")), ("from", ("at", "ann", "oak1")), ("from", ("at", "", "oak")),
                     ("from", ("at", "ann", "")), ("from", ("at", "1ann", "oak")), ("from", (True, "ann", "oak")),
                     ("from", ("at", "a" * 13, "oak")), ("from", ("at", "ann", "o" * 13)), ("from", None),
                     ("from", ())]),
    (("to", ("at", "a" * 12, "o" * 12)), [("to", ("at", "a" * 12, "o" * 13)), ("to", ("at", "a\n", "o"))]),
    (("cc", ANN), [("cc", ANN[1:]), ("bcc", ANN), ("cc", (ANN,))]),
    (("has", "A"), [("has",), ("has", ""), ("has", "a"), ("has", "A", "B"), ("has", ("A",)), ("has", 1),
                    ("has", "A1")]),
    (("has", "A" + "b" * 19), [("has", "A" + "b" * 20)]),
    (("has", "A-B"), [("has", "A-b"), ("has", "A--B"), ("has", "-A"), ("has", "A-"), ("has", "AB"), ("has", "A B")]),
    (("has", "Part"), [("has", "Parts"), ("has", "parts"), ("has", "PARTS")]),
    (("header", "To", "a"), [("header", "To"), ("header", "a"), ("header", "To", ""), ("header", "To", "A"),
                             ("header", "to", "a"), ("header", "Parts", "a"), ("header", "To", "a", "b"),
                             ("header", "To", "a-b"), ("header", "To", " "), ("header", "To", 7), ("subject", "a")]),
    (("text", "a" * 30), [("text", "a" * 31), ("text", ""), ("text", "a b"), ("text", "a\n"), ("text", ["a"]),
                           ("text",)]),
    (("term", "0"), [("term", 0), ("term", True), ("term", "_"), ("term", "0", "1"), ("term", None)]),
    (("size", 1000), [("size", 999), ("size", "1000"), ("size", True), ("size", None), ("size",), ("size", 0)]),
    (("size", 19999), [("size", 20000), ("size", -19999), ("size", 19999, 19999)]),
    (("since", 1), [("since", 0), ("since", True), ("since", "1"), ("since", -1), ("since", (1,))]),
    (("since", 10000), [("since", 10001), ("since", 10000, 10000)]),
    (("uid", 1, 1), [("uid", True, 1), ("uid", 1, True), ("uid", 1), ("uid", 0, 1), ("uid", 2, 1), ("uid", (1, 1)),
                     ("uid", 1, 1, 1), ("uid", "1", "1"), ("uid", 1, None)]),
    (("uid", 999999999, 999999999), [("uid", 999999999, 1000000000), ("uid", 1000000000, 1000000000)]),
    (("flag", "a" * 12), [("flag", "a" * 13), ("flag", ""), ("flag", "Red"), ("flag", "red1"), ("flag", ("red",)),
                           ("flag",)]),
    (("thread", "x" * 400), [("thread", "x" * 401), ("thread", ""), ("thread", "a b"), ("thread", "a\n"), ("thread", 7),
                             ("thread", ["a"]), ("thread",), ("thread", "a", "b")]),
]
MIXED = ("or", (("and", (("not", ("or", (("from", ANN), ("uid", 3, 9)))), ("header", "To", "x"))), ("size", 2000),
                ("not", ("not", ("flag", "red")))))


def nots(count, query=ALL):
    for _ in range(count):
        query = ("not", query)
    return query


def ladder(count, query=ALL):
    """The query within so many brackets: or and and by turns."""
    for at in range(count):
        query = ("or", (query, ALL)) if at % 2 == 0 else ("and", (query, ALL))
    return query


def places(thing, path=()):
    """The paths of all things within a thing, itself included."""
    yield path
    if type(thing) is tuple:
        for at, part in enumerate(thing):
            yield from places(part, path + (at,))


def changed(thing, path, change):
    """The thing with a change at a path: change gives a list of things for the one there."""
    if len(path) == 1:
        return thing[:path[0]] + tuple(change(thing[path[0]])) + thing[path[0] + 1:]
    return thing[:path[0]] + (changed(thing[path[0]], path[1:], change),) + thing[path[0] + 1:]


OTHERS = (None, True, False, 0, 1, -1, 10 ** 9, "", "a", "all", "not", "and", "or", "at", "A", "(", (), [], ("all",),
          ["all"], ("not", ("all",)), ("and", (("all",), ("all",))), ((),), "two words", 1000, 10000, 999999999)


def changes(thing):
    """The thing with one place anywhere changed."""
    for path in places(thing):
        if path == ():
            yield list(thing)
            continue
        yield changed(thing, path, lambda part: ())
        yield changed(thing, path, lambda part: (part, part))
        yield changed(thing, path, lambda part: (list(part) if type(part) is tuple else [part],))
        yield changed(thing, path, lambda part: ((part,),))
        for other in OTHERS:
            yield changed(thing, path, lambda part: (other,))


class Case(unittest.TestCase):
    def asked(self, thing, wanted=None):
        told = is_query(thing)
        self.assertIs(type(told), bool)
        self.assertEqual(told, oracles.right_query(thing) if wanted is None else wanted, thing)

    def written(self, query, text):
        with self.subTest(text=text):
            self.assertIs(is_query(query), True)
            self.assertEqual(write_query(query), text)
            self.assertEqual(read_query(text), query)


class Tests(Case):
    def test_each_test_is_written_and_read(self):
        for text, query in TESTS.items():
            self.written(query, text)

    def test_just_right_and_just_wrong(self):
        for right, wrong in WRONG:
            with self.subTest(right=right):
                self.asked(right, True)
            for thing in wrong:
                with self.subTest(thing=thing):
                    self.asked(thing, False)
                    self.asked(("not", thing), False)
                    self.asked(("and", (ALL, thing)), False)

    def test_one_place_changed(self):
        for query in list(TESTS.values()) + [MIXED, ("and", (ALL, ALL)), ("not", ALL), ("or", (ALL, ALL, ALL))]:
            self.asked(query, True)
            for thing in changes(query):
                self.asked(thing)

    def test_an_integer_for_true(self):
        for thing in (("uid", True, 5), ("uid", 1, True), ("since", True)):
            self.asked(thing, False)


class Queries(Case):
    def test_things_that_are_no_tuples(self):
        for thing in (None, True, False, 0, 1, "", "all", [], ["all"], [("all",)], [["all"]], (), ((),)):
            self.asked(thing, False)

    def test_not_and_or(self):
        self.asked(("not", ALL), True)
        self.asked(("and", (ALL, ALL)), True)
        self.asked(("or", (ALL,) * 3), True)
        for thing in (("not",), ("not", ALL, ALL), ("not", (ALL,)), ("not", "all"), ("and",), ("and", ()),
                      ("and", (ALL,)), ("and", ALL), ("and", ALL, ALL), ("and", [ALL, ALL]), ("or", (ALL,)),
                      ("or", (ALL, ())),
                      ("or", (ALL, ALL), ()), ("or", "ab"), ("and", ("all", "all")), ("xor", (ALL, ALL)), ("NOT", ALL)):
            self.asked(thing, False)

    def test_the_nest_of_not(self):
        self.asked(nots(12), True)
        self.asked(nots(13), False)
        self.asked(nots(11, ("and", (ALL, ALL))), True)
        self.asked(nots(12, ("and", (ALL, ALL))), False)
        self.asked(nots(10, ("or", (ALL, ("and", (ALL, ALL))))), True)
        self.asked(nots(10, ("or", (nots(1), ("and", (ALL, ALL))))), True)
        self.asked(nots(10, ("and", (nots(1), ("or", (ALL, ALL))))), True)
        self.asked(nots(10, ("and", (nots(1), ("or", (ALL, nots(1)))))), False)

    def test_the_nest_of_brackets(self):
        deep = ALL
        for count in range(1, 15):
            deep = ("and", (deep, ALL))
            self.asked(deep, count <= 13)
        deep = ALL
        for count in range(1, 15):
            deep = ("or", (ALL, deep))
            self.asked(deep, count <= 13)

    def test_the_nest_of_or_and_and_by_turns(self):
        # An `or` within an `and` has brackets, an `and` within an `or` has none.
        for count in range(1, 40):
            self.asked(ladder(count), count <= 25)
        self.asked(("not", ladder(20)), True)
        self.asked(("not", ladder(21)), True)
        self.asked(("not", ladder(22)), False)
        self.assertEqual(write_query(ladder(25)).count("("), 12)

    def test_things_nested_very_deep(self):
        for deep in (nots(44), ladder(44), nots(20, ladder(22)), ladder(22, nots(20))):
            self.asked(deep, False)
        deep = ()
        for _ in range(88):
            deep = (deep,)
        self.asked(deep, False)
        self.asked(("and", (ALL, deep[0])), False)

    def test_100_and_101_tests(self):
        self.asked(("and", (ALL,) * 100), True)
        self.asked(("and", (ALL,) * 101), False)
        half = ("and", (("flag", "a"),) * 50)
        self.asked(("or", (half, half)), True)
        self.asked(("or", (half, half, ALL)), False)
        self.asked(("not", ("or", (half, ("not", half), ALL))), False)
        self.asked(("or", (ALL,) * 9000), False)

    def test_2000_and_2001_signs(self):
        for more, wanted in ((0, True), (1, False)):
            words = ("thread", "x" * 400)
            query = ("and", (words,) * 4 + (("thread", "y" * (345 + more)),))
            self.assertEqual(len(write_query(query)), 2000 + more)
            self.asked(query, wanted)
        # The brackets count, too.
        brackets = ("not", ("or", (words, words, words, words, ("thread", "z" * 341))))
        self.assertEqual(len(write_query(brackets)), 2000)
        self.asked(brackets, True)
        self.asked(("not", ("or", brackets[1][1][:4] + (("thread", "z" * 342),))), False)

    def test_the_same_thing_in_many_places(self):
        part = ("and", (ALL, ("not", ALL)))
        query = ("or", (part, part, ("not", part)))
        self.asked(query, True)
        self.assertEqual(write_query(query), "all and not all or all and not all or not ( all and not all )")

    def test_by_chance(self):
        chance = random.Random(31)
        for _ in range(400):
            query = any_query(chance, chance.randrange(1, 9))
            self.asked(query)
            if is_query(query):
                self.assertEqual(write_query(query), " ".join(oracles.written_words(query)))
                self.assertEqual(read_query(write_query(query)), query)


def any_query(chance, depth, tests=tuple(TESTS.values())):
    kind = chance.choice(("test", "not", "not", "and", "or"))
    if depth == 0 or kind == "test":
        return chance.choice(tests)
    if kind == "not":
        return ("not", any_query(chance, depth - 1, tests))
    return (kind, tuple(any_query(chance, depth - 1, tests) for _ in range(chance.choice((2, 2, 2, 3)))))


class Written(Case):
    def test_not(self):
        self.written(("not", ALL), "not all")
        self.written(("not", ("not", ALL)), "not not all")
        self.written(("not", ("and", (ALL, ALL))), "not ( all and all )")
        self.written(("not", ("or", (ALL, ALL))), "not ( all or all )")
        self.written(("not", ("not", ("or", (ALL, ALL)))), "not not ( all or all )")

    def test_and(self):
        self.written(("and", (ALL, ("not", ALL), ALL)), "all and not all and all")
        self.written(("and", (("and", (ALL, ALL)), ALL)), "( all and all ) and all")
        self.written(("and", (ALL, ("or", (ALL, ALL)))), "all and ( all or all )")

    def test_or(self):
        self.written(("or", (ALL, ("not", ALL), ALL)), "all or not all or all")
        self.written(("or", (("and", (ALL, ALL)), ALL)), "all and all or all")
        self.written(("or", (ALL, ("or", (ALL, ALL)))), "all or ( all or all )")
        self.written(("or", (("not", ("and", (ALL, ALL))), ALL)), "not ( all and all ) or all")

    def test_every_arrangement(self):
        a, b, c = ("text", "a"), ("text", "b"), ("text", "c")
        for one in ("and", "or"):
            for other in ("and", "or"):
                for query in ((one, (a, (other, (b, c)))), (one, ((other, (a, b)), c)),
                              (one, (("not", (other, (a, b))), c)),
                              ("not", (one, (("not", a), (other, (b, ("not", c))))))):
                    self.written(query, " ".join(oracles.written_words(query)))

    def test_what_is_handed_in_stays(self):
        kept = repr(MIXED)
        self.written(MIXED, "not ( from ann@oak or uid 3-9 ) and header To x or size 2000 or not not flag red")
        self.assertEqual(repr(MIXED), kept)


if __name__ == "__main__":
    unittest.main()
