"""Queries: what they are, their texts, and how they are read (q2 to q5)."""

from oncemail.asked import ARGUMENTS, is_test, write_test
from oncemail.errors import BadQuery
from oncemail.signs import words_in

QUERY_SIGNS = 2000
MOST_TESTS = 100
MOST_NEST = 12


def is_query(thing):
    """Whether the thing is a query."""
    if not has_form(thing, MOST_NEST) or tests_in(thing) > MOST_TESTS:
        return False
    return len(write_query(thing)) <= QUERY_SIGNS


def has_form(thing, room):
    """Whether the thing is a query but for its length, of at most this nest."""
    if room < 0 or type(thing) is not tuple or len(thing) == 0:
        return False
    word = thing[0]
    parts = thing[1:]
    if word == "and" or word == "or":
        if len(thing) != 2 or type(thing[1]) is not tuple or len(thing[1]) < 2:
            return False
        parts = thing[1]
    elif word != "not":
        return is_test(thing)
    elif len(thing) != 2:
        return False
    return all([has_form(part, room - nest_at(word, part)) for part in parts])


def nest_at(word, part):
    """How much deeper a part stands than the query that begins with this word."""
    return int(word == "not") + int(has_brackets(word, part))


def has_brackets(word, part):
    """Whether a part of the query that begins with this word stands in brackets."""
    if type(part) is not tuple or len(part) == 0:
        return False
    return part[0] == "or" or (part[0] == "and" and word != "or")


def tests_in(query):
    """How many tests a query has, alike or not."""
    word = query[0]
    if word == "not":
        return tests_in(query[1])
    if word == "and" or word == "or":
        return sum([tests_in(part) for part in query[1]])
    return 1


def write_query(query):
    """The text of a query."""
    word = query[0]
    if word == "not":
        return f"not {part_text(word, query[1])}"
    if word == "and" or word == "or":
        joint = f" {word} "
        return joint.join([part_text(word, part) for part in query[1]])
    return write_test(query)


def part_text(word, part):
    """The text of a part within the query that begins with this word."""
    text = write_query(part)
    return f"( {text} )" if has_brackets(word, part) else text


def read_query(text):
    """The query of a text."""
    if len(text) > QUERY_SIGNS:
        raise BadQuery(0, "too long")
    return QueryReader(words_in(text)).read()


def joined(word, queries):
    """Several queries joined by a word; a single one stays as it is."""
    if len(queries) == 1:
        return queries[0]
    return (word, tuple(queries))


class Level:
    """What has been read of a query within one pair of brackets."""

    def __init__(self):
        self.nots = 0
        self._ands = []
        self._ors = []

    def put(self, query):
        """Puts a query that is complete behind the words `not` that wait for it."""
        for _ in range(self.nots):
            query = ("not", query)
        self.nots = 0
        self._ands.append(query)

    def divide(self):
        """Ends the queries that are joined by `and` at a word `or` or at the end."""
        self._ors.append(joined("and", self._ands))
        self._ands = []

    def whole(self):
        """The query of all that was read."""
        self.divide()
        return joined("or", self._ors)


class QueryReader:
    """Reads the words of a query from left to right."""

    def __init__(self, words):
        self._words = words
        self._at = 0
        self._tests = 0
        self._nest = 0
        self._levels = [Level()]

    def read(self):
        """The query of all words."""
        self._read_part()
        while self._read_joint():
            self._read_part()
        return self._levels[0].whole()

    def _next_word(self, reason):
        """The word at which the reader is; without one there is a fault."""
        if self._at == len(self._words):
            raise BadQuery(self._at + 1, reason)
        return self._words[self._at]

    def _read_part(self):
        """Reads up to the end of the next test."""
        word = self._next_word("no test")
        while word == "not" or word == "(":
            self._go_deeper(word)
            word = self._next_word("no test")
        readers = ARGUMENTS.get(word, None)
        if readers is None:
            raise BadQuery(self._at + 1, "no test")
        if self._tests == MOST_TESTS:
            raise BadQuery(self._at + 1, "many tests")
        self._tests += 1
        self._at += 1
        self._put(self._read_test(word, readers))

    def _go_deeper(self, word):
        """Reads a word `not` or an opening bracket."""
        if self._nest == MOST_NEST:
            raise BadQuery(self._at + 1, "too deep")
        self._nest += 1
        self._at += 1
        if word == "not":
            level = self._levels[-1]
            level.nots += 1
        else:
            self._levels.append(Level())

    def _read_test(self, word, readers):
        """The test that begins with a word, its arguments read by the readers."""
        test = ("header", "Subject") if word == "subject" else (word,)
        for reader in readers:
            parts = reader(self._next_word("bad argument"))
            if parts is None:
                raise BadQuery(self._at + 1, "bad argument")
            test = test + parts
            self._at += 1
        return test

    def _put(self, query):
        """Puts a query that is complete; so are then those of the words `not` before it."""
        level = self._levels[-1]
        self._nest -= level.nots
        level.put(query)

    def _read_joint(self):
        """Reads what stands behind a test up to `and` or `or`; False at the end of all."""
        while self._at < len(self._words) or len(self._levels) > 1:
            word = self._next_word("no join")
            if word == ")" and len(self._levels) > 1:
                inner = self._levels.pop()
                self._nest -= 1
                self._put(inner.whole())
            elif word == "and" or word == "or":
                if word == "or":
                    self._levels[-1].divide()
                self._at += 1
                return True
            else:
                raise BadQuery(self._at + 1, "no join")
            self._at += 1
        return False
