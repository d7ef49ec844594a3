"""Samples that tell queries apart (q7)."""

from oncemail.errors import BadQuery
from oncemail.hanging import Cases
from oncemail.logic import tests_of
from oncemail.making import sample_for

MOST_ASKED = 12


def apart(one, other):
    """A sample that tells two queries apart, or None if there is none."""
    tests = tests_of(one)
    tests.update(tests_of(other))
    if len(tests) > MOST_ASKED:
        raise BadQuery(0, "many tests")
    cases = Cases(tests)
    found = cases.possible & (cases.where(one) ^ cases.where(other))
    if found == 0:
        return None
    return sample_for(cases.first_answers(found))
