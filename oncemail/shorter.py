"""Filters that are told apart, rules that are reached, and tight forms (fi6, fi7)."""

from oncemail.errors import BadFilter
from oncemail.hanging import Cases
from oncemail.logic import tests_of
from oncemail.making import letter_for, turn_for
from oncemail.outcomes import ends, outcome_of

MOST_ASKED = 12
MOST_ASKED_TO_SHORTEN = 8


def filters_apart(one, other):
    """A pair (letter, turn) that tells two filters apart, or None if there is none."""
    cases = cases_of((one, other), MOST_ASKED)
    outcomes = outcome_masks(one, cases)
    for outcome, mask in outcome_masks(other, cases).items():
        found = mask & ~outcomes.get(outcome, 0)
        if found != 0:
            return pair_for(cases, found)
    return None


def reached(sieve, place):
    """A pair (letter, turn) by which the rule with this index is reached, or None if there is none."""
    cases = cases_of((sieve,), MOST_ASKED)
    left = cases.possible
    for _, query, deeds in sieve[1][:place]:
        if ends(deeds):
            left = left & ~cases.where(query)
    found = left & cases.where(sieve[1][place][1])
    return None if found == 0 else pair_for(cases, found)


def shorten(sieve):
    """A tight form of a filter."""
    cases = cases_of((sieve,), MOST_ASKED_TO_SHORTEN)
    tight = Tightening(sieve, cases)
    while tight.leave_out_some():
        pass
    return tight.filter_left()


def cases_of(sieves, most):
    """The cases of all tests of some filters, which have at most so many unlike ones."""
    tests = {}
    for _, rules in sieves:
        for _, query, _ in rules:
            tests.update(tests_of(query))
    if len(tests) > most:
        raise BadFilter(0, "many tests")
    return Cases(tests)


def pair_for(cases, mask):
    """A letter and a turn in the first of some cases."""
    answers = cases.first_answers(mask)
    return (letter_for(answers), turn_for(answers))


def outcome_masks(sieve, cases):
    """The possible cases in which each outcome of a filter comes, a dict."""
    found = {}
    for mask, rules in divided(sieve, cases):
        outcome = outcome_of([deed for rule in rules for deed in rule[2]])
        found[outcome] = found.get(outcome, 0) | mask
    return found


def divided(sieve, cases):
    """The possible cases by the rules that hold there up to the one that ends: pairs (mask, rules)."""
    ended = []
    going = [(cases.possible, ())]
    for rule in sieve[1]:
        where = cases.where(rule[1])
        inside = [(mask & where, rules + (rule,)) for mask, rules in going if mask & where != 0]
        outside = [(mask & ~where, rules) for mask, rules in going if mask & ~where != 0]
        if ends(rule[2]):
            ended.extend(inside)
            going = outside
        else:
            going = inside + outside
    return ended + going


class Tightening:
    """A filter of which deeds are left out; its deeds are known by their numbers from 0."""

    def __init__(self, sieve, cases):
        self._rules = sieve[1]
        self._deeds = [deed for rule in sieve[1] for deed in rule[2]]
        self._left = {number: True for number in range(len(self._deeds))}
        self._rows = rows_of_deeds(sieve, cases)
        self._outcomes = [outcome_of(self._told(row)) for row in self._rows]

    def leave_out_some(self):
        """Leaves out deeds without which all outcomes stay; whether there were any."""
        numbers = sorted(self._left, reverse=True)
        for number in numbers:
            if self._is_idle(number):
                del self._left[number]
                self._rows = [[other for other in row if other != number] for row in self._rows]
        return len(self._left) < len(numbers)

    def filter_left(self):
        """The filter of the deeds that are left."""
        rules = []
        number = 0
        for _, query, deeds in self._rules:
            kept = [deed for at, deed in enumerate(deeds) if number + at in self._left]
            number += len(deeds)
            if len(kept) > 0:
                rules.append(("rule", query, tuple(kept)))
        return ("filter", tuple(rules))

    def _told(self, row):
        """The deeds with these numbers."""
        return [self._deeds[number] for number in row]

    def _is_idle(self, number):
        """Whether all outcomes stay without a deed."""
        for row, outcome in zip(self._rows, self._outcomes):
            if number in row and outcome_of(self._told([other for other in row if other != number])) != outcome:
                return False
        return True


def rows_of_deeds(sieve, cases):
    """The numbers of the deeds of the rules that hold together in some possible case, each such row once."""
    groups = [(cases.possible, [])]
    first = 0
    for _, query, deeds in sieve[1]:
        where = cases.where(query)
        numbers = list(range(first, first + len(deeds)))
        first += len(deeds)
        inside = [(mask & where, row + numbers) for mask, row in groups if mask & where != 0]
        groups = inside + [(mask & ~where, row) for mask, row in groups if mask & ~where != 0]
    return [row for _, row in groups]
