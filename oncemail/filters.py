"""Filters: what they are, their texts, how they are read and what comes of them (fi1 to fi5)."""

from oncemail.addresses import bare_address, is_address, write_address
from oncemail.errors import BadFilter, BadQuery
from oncemail.logic import mask_of, tests_of
from oncemail.meaning import Asked
from oncemail.names import are_flags, is_flag, is_name
from oncemail.outcomes import MOST_FLAGS, outcome_of
from oncemail.queries import is_query, read_query, write_query
from oncemail.signs import lines_in, words_in

FILTER_SIGNS = 5000
MOST_RULES = 40
MOST_DEEDS = 8
# Of these tests the outcome must not hang: it is found before a letter is in a box.
BARRED = ("uid", "flag", "thread")


def is_filter(thing):
    """Whether the thing is a filter."""
    if type(thing) is not tuple or len(thing) != 2 or thing[0] != "filter":
        return False
    rules = thing[1]
    if type(rules) is not tuple or len(rules) > MOST_RULES:
        return False
    if not all([is_rule(rule) for rule in rules]):
        return False
    return len(write_filter(thing)) <= FILTER_SIGNS


def is_rule(thing):
    """Whether the thing is a rule of a filter."""
    if type(thing) is not tuple or len(thing) != 3 or thing[0] != "rule":
        return False
    _, query, deeds = thing
    if type(deeds) is not tuple or not 1 <= len(deeds) <= MOST_DEEDS:
        return False
    return is_query(query) and not asks_barred(query) and all([is_filter_deed(deed) for deed in deeds])


def asks_barred(query):
    """Whether a query has a test that a filter cannot ask."""
    return any([test[0] in BARRED for test in tests_of(query)])


def is_filter_deed(thing):
    """Whether the thing is a deed of a filter."""
    if type(thing) is not tuple or len(thing) == 0:
        return False
    kind = thing[0]
    if kind == "file":
        return len(thing) == 3 and is_name(thing[1]) and are_few_flags(thing[2])
    if kind == "keep":
        return len(thing) == 2 and are_few_flags(thing[1])
    if kind == "forward":
        return len(thing) == 2 and is_address(thing[1])
    return thing in (("refuse",), ("drop",), ("stop",))


def are_few_flags(thing):
    """Whether the thing is a tuple of as many flags as a letter can have."""
    return are_flags(thing) and len(thing) <= MOST_FLAGS


def write_filter(sieve):
    """The text of a filter."""
    lines = []
    for _, query, deeds in sieve[1]:
        lines.append(f"when {write_query(query)}\n")
        for deed in deeds:
            words = " ".join(deed_words(deed))
            lines.append(f"  {words}\n")
    return "".join(lines)


def deed_words(deed):
    """The words in which a deed is written."""
    kind = deed[0]
    if kind == "file":
        return [kind, deed[1], *deed[2]]
    if kind == "keep":
        return [kind, *deed[1]]
    if kind == "forward":
        return [kind, write_address(deed[1])]
    return [kind]


def run_filter(sieve, letter, turn):
    """What becomes of a letter that comes at this turn."""
    asked = Asked(("kept", 1, 1, (), turn, letter), ())
    deeds = []
    for _, query, row in sieve[1]:
        masks = {test: int(asked.answer(test)) for test in tests_of(query)}
        if mask_of(query, masks, 1) == 1:
            deeds.extend(row)
    return outcome_of(deeds)


def read_filter(text):
    """The filter of a text."""
    if len(text) > FILTER_SIGNS:
        raise BadFilter(0, "too long")
    reader = FilterReader()
    for at, line in enumerate(lines_in(text)):
        reader.read_line(at + 1, line)
    sieve = ("filter", reader.rules())
    if len(write_filter(sieve)) > FILTER_SIGNS:
        raise BadFilter(0, "too long")
    return sieve


class FilterReader:
    """Reads the lines of a filter in their order."""

    def __init__(self):
        self._rules = []
        # The line at which the last rule begins, its query and its deeds.
        self._line = 0
        self._query = None
        self._deeds = []

    def read_line(self, number, line):
        """Reads the line with this number."""
        bare = line.strip(" ")
        if bare == "" or bare.startswith("#"):
            return
        if line.startswith(" "):
            self._read_deed(number, words_in(line))
        else:
            self._end_rule()
            self._begin_rule(number, line)

    def rules(self):
        """All rules, when all lines have been read."""
        self._end_rule()
        return tuple(self._rules)

    def _end_rule(self):
        """Puts the last rule behind the others."""
        if self._query is None:
            return
        if len(self._deeds) == 0:
            raise BadFilter(self._line, "no deed")
        self._rules.append(("rule", self._query, tuple(self._deeds)))
        self._query = None

    def _begin_rule(self, number, line):
        """Reads a line that begins a rule."""
        word, _, rest = line.partition(" ")
        if word != "when":
            raise BadFilter(number, "unknown line")
        if len(self._rules) == MOST_RULES:
            raise BadFilter(number, "many rules")
        query = query_or_none(rest.strip(" "))
        if query is None or asks_barred(query):
            raise BadFilter(number, "bad query")
        self._line = number
        self._query = query
        self._deeds = []

    def _read_deed(self, number, words):
        """Reads the words of a line with a deed."""
        if self._query is None:
            raise BadFilter(number, "no rule")
        if len(self._deeds) == MOST_DEEDS:
            raise BadFilter(number, "many deeds")
        fault = deed_fault(words)
        if fault != "":
            raise BadFilter(number, fault)
        self._deeds.append(deed_from(words))


def query_or_none(text):
    """The query of a text, or None if it is none."""
    try:
        return read_query(text)
    except BadQuery:
        return None


def deed_fault(words):
    """The first reason for which words are no deed, empty if they are one."""
    kind = words[0]
    if not are_enough(kind, len(words)):
        return "bad deed"
    if kind == "file" and not is_name(words[1]):
        return "bad box"
    if kind == "forward" and bare_address(words[1]) is None:
        return "bad address"
    flags = flag_words(words)
    if not all([is_flag(flag) for flag in flags]):
        return "bad flag"
    if len(set(flags)) > MOST_FLAGS:
        return "many flags"
    return ""


def are_enough(kind, count):
    """Whether a deed that begins with this word can have so many words."""
    if kind == "file":
        return count >= 2
    if kind == "forward":
        return count == 2
    return kind == "keep" or (kind in ("refuse", "drop", "stop") and count == 1)


def flag_words(words):
    """The words of a deed that stand in the places of flags."""
    if words[0] == "file":
        return words[2:]
    return words[1:] if words[0] == "keep" else []


def deed_from(words):
    """The deed that right words tell."""
    flags = tuple(sorted(set(flag_words(words))))
    if words[0] == "file":
        return ("file", words[1], flags)
    if words[0] == "keep":
        return ("keep", flags)
    if words[0] == "forward":
        return ("forward", bare_address(words[1]))
    return (words[0],)
