"""The meaning of queries (q6)."""

from oncemail.contents import addresses_of, headers_of, terms_of, writer_of
from oncemail.letters import size_of
from oncemail.logic import mask_of, tests_of

HEADER_NAMES = {"to": "To", "cc": "Cc"}


def holds(query, record, names):
    """Whether a query holds for a record and names."""
    asked = Asked(record, names)
    masks = {test: int(asked.answer(test)) for test in tests_of(query)}
    return mask_of(query, masks, 1) == 1


class Asked:
    """A record with names, of which tests are asked; its terms are found once for each place."""

    def __init__(self, record, names):
        self._record = record
        self._letter = record[5]
        self._names = names
        self._terms = {}

    def answer(self, test):
        """Whether a test other than `all` holds."""
        _, uid, _, flags, turn, letter = self._record
        kind = test[0]
        if kind == "size":
            return size_of(letter) > test[1]
        if kind == "since":
            return turn >= test[1]
        if kind == "uid":
            return test[1] <= uid <= test[2]
        if kind == "flag":
            return test[1] in flags
        if kind == "thread":
            return test[1] in self._names
        return self._answer_by_letter(kind, test)

    def _answer_by_letter(self, kind, test):
        """Whether a test that asks for what stands in the letter holds."""
        if kind == "from":
            return writer_of(self._letter) == test[1]
        if kind == "to" or kind == "cc":
            return test[1] in addresses_of(self._letter, HEADER_NAMES[kind])
        if kind == "has":
            return len(headers_of(self._letter, test[1])) > 0
        if kind == "header":
            return test[2] in self._terms_at(test[1])
        return test[1] in self._terms_at(kind)

    def _terms_at(self, where):
        """The terms of the letter in this place, a dict of True."""
        if where not in self._terms:
            self._terms[where] = {term: True for term in terms_of(self._letter, where)}
        return self._terms[where]
