"""The meaning of queries (q6)."""

from oncemail.contents import addresses_of, headers_of, terms_of, writer_of
from oncemail.letters import size_of
from oncemail.logic import mask_of, tests_of


def holds(query, record, names):
    """Whether a query holds for a record and names."""
    asked = Asked(record, names)
    masks = {test: int(asked.answer(test)) for test in tests_of(query)}
    return mask_of(query, masks, 1) == 1


class Asked:
    """A record with names, of which tests are asked; what they need is found once for each place."""

    def __init__(self, record, names):
        self._record = record
        self._names = names
        self._found = {}

    def answer(self, test):
        """Whether a test other than `all` holds."""
        _, uid, _, flags, turn, letter = self._record
        kind = test[0]
        if kind == "since":
            return turn >= test[1]
        if kind == "uid":
            return test[1] <= uid <= test[2]
        if kind == "flag":
            return test[1] in flags
        if kind == "thread":
            return test[1] in self._names
        if kind == "has":
            return len(headers_of(letter, test[1])) > 0
        if kind == "header":
            return test[2] in self._at(test[1])
        if kind == "size":
            return self._at(kind) > test[1]
        return test[1] in self._at(kind)

    def _at(self, place):
        """What the letter has in a place: a test's word or the name of a header."""
        if place not in self._found:
            self._found[place] = found_in(self._record[5], place)
        return self._found[place]


def found_in(letter, place):
    """The size of a letter, its addresses or its terms in a place; all but the size as a dict of True."""
    if place == "size":
        return size_of(letter)
    if place == "from":
        found = (writer_of(letter),)
    elif place == "to" or place == "cc":
        found = addresses_of(letter, place)
    else:
        found = terms_of(letter, place)
    return {thing: True for thing in found}
