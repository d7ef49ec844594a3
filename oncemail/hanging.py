"""Which tests hang on one another, and all cases of their answers (q8)."""

from oncemail.asked import LAST_UID
from oncemail.logic import mask_of

MOST_FLAGS = 8
ADDRESS_HEADERS = {"from": "From", "to": "To", "cc": "Cc"}


class Cases:
    """The cases of answers to a few unlike tests other than `all`, numbered from 0."""

    def __init__(self, tests):
        self._masks = {}
        self._whole = 1
        many = 1
        for test in tests:
            self._masks = {other: mask | (mask << many) for other, mask in self._masks.items()}
            self._masks[test] = self._whole << many
            self._whole = self._whole | (self._whole << many)
            many = 2 * many
        self.possible = possible_cases(self._masks, self._whole)

    def where(self, query):
        """The mask of the cases in which a query with these tests holds."""
        return mask_of(query, self._masks, self._whole)

    def first_answers(self, mask):
        """Whether each test holds, a dict, in the first case of a mask that is not empty."""
        first = mask & -mask
        return {test: (other & first) != 0 for test, other in self._masks.items()}


def possible_cases(masks, whole):
    """The mask of the cases that keep all rules: masks has the cases in which each test holds."""
    found = uid_cases(masks, whole) & ~crowded_cases(masks, whole)
    for test in masks:
        for other in what_follows(test, masks):
            found = found & ~(masks[test] & ~masks[other])
        for other in what_is_barred(test, masks):
            found = found & ~(masks[test] & masks[other])
        if test[0] == "thread":
            joined = masks.get(("has", "Id"), whole) | masks.get(("has", "Re"), whole)
            found = found & ~(masks[test] & ~joined)
    return found


def what_follows(test, tests):
    """Those of the tests that hold if this one holds."""
    if test[0] == "size" or test[0] == "since":
        return [other for other in tests if other[0] == test[0] and other[1] < test[1]]
    return [other for other in consequences(test) if other in tests]


def consequences(test):
    """What holds by the letter if a test holds."""
    kind = test[0]
    if kind in ADDRESS_HEADERS:
        name = ADDRESS_HEADERS[kind]
        _, user, house = test[1]
        return [("has", name), ("header", name, user), ("header", name, house), ("term", user), ("term", house)]
    if kind == "header":
        return [("has", test[1]), ("term", test[2])]
    if kind == "text":
        return [("term", test[1])]
    return []


def what_is_barred(test, tests):
    """Those of the tests that do not hold if this one holds: a letter has one writer."""
    if test[0] != "from":
        return []
    return [other for other in tests if other[0] == "from" and other != test]


def uid_cases(masks, whole):
    """The cases in which the tests of uids answer as for some uid."""
    tests = [test for test in masks if test[0] == "uid"]
    found = 0
    for uid in edge_uids(tests):
        like = whole
        for test in tests:
            like = like & (masks[test] if is_within(uid, test) else ~masks[test])
        found = found | like
    return found


def edge_uids(tests):
    """Uids of which one answers the tests of uids in each way that there is."""
    edges = [1] + [test[1] for test in tests] + [test[2] + 1 for test in tests]
    return [uid for uid in edges if uid <= LAST_UID]


def is_within(uid, test):
    """Whether a test of uids holds for a uid."""
    return test[1] <= uid <= test[2]


def crowded_cases(masks, whole):
    """The cases in which a record has more flags than it can have."""
    at_least = [whole] + [0] * (MOST_FLAGS + 1)
    for test in masks:
        if test[0] == "flag":
            raised = [more & masks[test] for more in at_least[:-1]]
            at_least = [whole] + [old | new for old, new in zip(at_least[1:], raised)]
    return at_least[-1]
