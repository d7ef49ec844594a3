"""What the document says of queries, in plain and slow words, for comparison."""

import itertools
import re

from tests.oracles import DIGITS, PROPER, Fault, written

SIGNS = "\n" + "".join(chr(code) for code in range(32, 127) if code != 37)
WORD = re.compile(r"[!-$&-~]{1,400}\Z")
USER = re.compile(r"[a-z][a-z0-9]{0,11}\Z")
HOUSE = re.compile(r"[a-z]{1,12}\Z")
TERM = re.compile(r"[a-z0-9]{1,30}\Z")
NUMBER = re.compile(r"[1-9][0-9]{0,8}\Z")


def matches(pattern, thing):
    return type(thing) is str and pattern.match(thing) is not None


def is_address(thing):
    return (type(thing) is tuple and len(thing) == 3 and type(thing[0]) is str and thing[0] == "at"
            and matches(USER, thing[1]) and matches(HOUSE, thing[2]))


def is_name(thing):
    return matches(PROPER, thing) and len(thing) <= 20 and thing != "Parts"


def between(low, high):
    return lambda thing: type(thing) is int and low <= thing <= high


VALUES = {
    "all": [], "from": [is_address], "to": [is_address], "cc": [is_address], "has": [is_name],
    "header": [is_name, lambda thing: matches(TERM, thing)], "text": [lambda thing: matches(TERM, thing)],
    "term": [lambda thing: matches(TERM, thing)], "size": [between(1000, 19999)], "since": [between(1, 10000)],
    "uid": [between(1, 999999999), between(1, 999999999)], "flag": [lambda thing: matches(HOUSE, thing)],
    "thread": [lambda thing: matches(WORD, thing)],
}


def right_test(thing):
    if type(thing) is not tuple or not thing or type(thing[0]) is not str or thing[0] not in VALUES:
        return False
    checks = VALUES[thing[0]]
    if len(checks) != len(thing) - 1 or not all(check(part) for check, part in zip(checks, thing[1:])):
        return False
    return thing[0] != "uid" or thing[1] <= thing[2]


def parts_of(query):
    return {"not": query[1:], "and": query[1], "or": query[1]}[query[0]] if query[0] in ("not", "and", "or") else ()


def formed(thing):
    if type(thing) is tuple and len(thing) == 2 and type(thing[0]) is str and thing[0] in ("not", "and", "or"):
        if thing[0] == "not":
            return formed(thing[1])
        return type(thing[1]) is tuple and len(thing[1]) >= 2 and all(formed(part) for part in thing[1])
    return right_test(thing)


def leaves(query):
    if query[0] in ("not", "and", "or"):
        return [leaf for part in parts_of(query) for leaf in leaves(part)]
    return [query]


def written_words(query):
    """The words of the text of a query."""
    kind = query[0]
    if kind == "not":
        return ["not"] + within(query[1], ("and", "or"))
    if kind in ("and", "or"):
        words = []
        for part in query[1]:
            words += [kind] + within(part, ("and", "or") if kind == "and" else ("or",))
        return words[1:]
    if kind == "header":
        return ["subject", query[2]] if query[1] == "Subject" else list(query)
    if kind in ("from", "to", "cc"):
        return [kind, query[1][1] + "@" + query[1][2]]
    if kind == "uid":
        low, high = query[1:]
        return [kind, str(low) if low == high else f"{low}-" if high == 999999999 else f"{low}-{high}"]
    return [str(word) for word in query]


def within(query, kinds):
    words = written_words(query)
    return ["("] + words + [")"] if query[0] in kinds else words


def nest(query, above=""):
    """The greatest nest within a query below this word."""
    brackets = int(query[0] in {"": (), "not": ("and", "or"), "and": ("and", "or"), "or": ("or",)}[above])
    if query[0] not in ("not", "and", "or"):
        return brackets
    return brackets + int(query[0] == "not") + max(nest(part, query[0]) for part in parts_of(query))


def right_query(thing):
    return (formed(thing) and len(leaves(thing)) <= 100 and nest(thing) <= 12
            and len(" ".join(written_words(thing))) <= 2000)


def read_argument(kind, word):
    """The values that a word gives; None if it is no right argument."""
    if kind == "address":
        user, _, house = word.partition("@")
        return (("at", user, house),) if is_address(("at", user, house)) else None
    if kind == "name":
        if not re.match(r"[A-Za-z]+(-[A-Za-z]+)*\Z", word) or len(word) > 20 or word.lower() == "parts":
            return None
        return (word.title(),)
    if kind == "term":
        return (word.lower(),) if matches(TERM, word.lower()) else None
    if kind == "flag":
        return (word,) if matches(HOUSE, word) else None
    if kind == "word":
        return (word,) if matches(WORD, word) else None
    if kind == "uid":
        found = re.match(r"([1-9][0-9]{0,8})(-([1-9][0-9]{0,8})?)?\Z", word)
        if not found:
            return None
        low = int(found.group(1))
        high = low if not found.group(2) else int(found.group(3) or 999999999)
        return (low, high) if low <= high else None
    low, high = {"size": (1000, 19999), "since": (1, 10000)}[kind]
    return (int(word),) if NUMBER.match(word) and low <= int(word) <= high else None


ARGUMENTS = {"all": [], "from": ["address"], "to": ["address"], "cc": ["address"], "has": ["name"],
             "header": ["name", "term"], "subject": ["term"], "text": ["term"], "term": ["term"], "size": ["size"],
             "since": ["since"], "uid": ["uid"], "flag": ["flag"], "thread": ["word"]}


class Descent:
    """Reads a query from above, one rule of the grammar each method."""

    def __init__(self, text):
        if len(text) > 2000:
            raise Fault(0, "too long")
        self.words = re.findall("[^ ]+", text)
        self.at = 0
        self.tests = 0

    def peek(self):
        return self.words[self.at] if self.at < len(self.words) else None

    def fault(self, reason):
        raise Fault(self.at + 1, reason)

    def whole(self):
        query = self.some("or", 0)
        if self.peek() is not None:
            self.fault("no join")
        return query

    def some(self, joint, nest):
        queries = []
        while True:
            queries.append(self.some("and", nest) if joint == "or" else self.single(nest))
            if self.peek() != joint:
                return queries[0] if len(queries) == 1 else (joint, tuple(queries))
            self.at += 1

    def single(self, nest):
        word = self.peek()
        if word in ("not", "("):
            if nest == 12:
                self.fault("too deep")
            self.at += 1
            if word == "not":
                return ("not", self.single(nest + 1))
            query = self.some("or", nest + 1)
            if self.peek() != ")":
                self.fault("no join")
            self.at += 1
            return query
        if word not in ARGUMENTS:
            self.fault("no test")
        if self.tests == 100:
            self.fault("many tests")
        self.tests += 1
        self.at += 1
        values = ("header", "Subject") if word == "subject" else (word,)
        for kind in ARGUMENTS[word]:
            found = None if self.peek() is None else read_argument(kind, self.peek())
            if found is None:
                self.fault("bad argument")
            values += found
            self.at += 1
        return values


def read(text):
    """The query of a text; raises Fault."""
    return Descent(text).whole()


def terms(text):
    return set(re.findall("[a-z0-9]+", text.lower()))


def decoded(lines):
    row = "".join(lines)
    signs = ""
    for begin in range(0, len(row), 4):
        group = row[begin:begin + 4]
        number = int("".join(format(DIGITS.index(digit), "06b") for digit in group), 2)
        for place in reversed(range(len(group) - 1)):
            signs += SIGNS[number // 95 ** place]
            number -= number // 95 ** place * 95 ** place
    return signs


def content(letter):
    _, headers, (kind, held) = letter
    if kind == "parts":
        return "\n".join(content(part) for part in held)
    if [text for name, text in headers if name == "Coding"][:1] == ["six"]:
        return decoded(held)
    return "\n".join(held)


def all_headers(letter):
    _, headers, (kind, held) = letter
    inner = [pair for part in held for pair in all_headers(part)] if kind == "parts" else []
    return list(headers) + inner


def address_in(text):
    """The address of a text by l7, or None."""
    found = re.match(r" *(?:[^<>,]*<([^<>,]*)>|([^<>,]*?)) *\Z", text)
    if not found:
        return None
    user, _, house = (found.group(1) if found.group(1) is not None else found.group(2)).partition("@")
    return ("at", user, house) if is_address(("at", user, house)) else None


def tells(test, record, names):
    """Whether a test holds for a record and names."""
    _, uid, _, flags, turn, letter = record
    headers = letter[1]
    kind = test[0]
    if kind == "from":
        texts = [text for name, text in headers if name == "From"]
        return bool(texts) and address_in(texts[0]) == test[1]
    if kind in ("to", "cc"):
        return any(address_in(piece) == test[1] for name, text in headers if name == kind.title()
                   for piece in text.split(","))
    if kind == "has":
        return any(name == test[1] for name, _ in headers)
    if kind == "header":
        return any(test[2] in terms(text) for name, text in headers if name == test[1])
    if kind == "text":
        return test[1] in terms(content(letter))
    if kind == "term":
        return test[1] in terms(content(letter)) or any(test[1] in terms(text) for _, text in all_headers(letter))
    if kind == "size":
        return len(written(letter)) > test[1]
    if kind == "since":
        return turn >= test[1]
    if kind == "uid":
        return test[1] <= uid <= test[2]
    return {"all": lambda: True, "flag": lambda: test[1] in flags, "thread": lambda: test[1] in names}[kind]()


def truth(query, answer):
    """Whether a query holds where answer tells it of its tests."""
    if query[0] == "not":
        return not truth(query[1], answer)
    if query[0] == "and":
        return all([truth(part, answer) for part in query[1]])
    if query[0] == "or":
        return any([truth(part, answer) for part in query[1]])
    return answer(query)


def holds(query, record, names):
    return truth(query, lambda test: tells(test, record, names))


def implied(test):
    """All that holds with a test, by the rules 1 to 3 of q8."""
    kind = test[0]
    found = [test]
    if kind in ("from", "to", "cc"):
        for word in test[1][1:]:
            found += implied(("header", kind.title(), word))
    elif kind == "header":
        found += [("has", test[1]), ("term", test[2])]
    elif kind == "text":
        found += [("term", test[1])]
    return found


def can_be(answers):
    """Whether answers of tests (a dict) can be completed by the rules of q8."""
    held = [test for test in answers if answers[test]]
    barred = [test for test in answers if not answers[test]]
    true = {other for test in held for other in implied(test)}
    if any(test in true for test in barred):
        return False
    if len([test for test in true if test[0] == "from"]) > 1 or len([test for test in true if test[0] == "flag"]) > 8:
        return False
    for kind in ("size", "since"):
        if any(low[0] == high[0] == kind and low[1] < high[1] for low in barred for high in held):
            return False
    uids = [test for test in answers if test[0] == "uid"]
    edges = {1} | {test[1] for test in uids} | {test[2] + 1 for test in uids} - {1000000000}
    if not any(all((test[1] <= uid <= test[2]) == answers[test] for test in uids) for uid in edges):
        return False
    if any(test[0] == "thread" for test in held):
        return not (("has", "Id") in barred and ("has", "Re") in barred)
    return True


def asked(*queries):
    """The unlike tests of queries other than `all`."""
    return sorted({leaf for query in queries for leaf in leaves(query) if leaf != ("all",)}, key=repr)


def possible(tests):
    """All answers of tests (dicts) that can be."""
    for row in itertools.product((False, True), repeat=len(tests)):
        answers = dict(zip(tests, row))
        if can_be(answers):
            yield {**answers, ("all",): True}


def are_apart(one, other):
    """Whether some set of records tells two queries apart."""
    return any(truth(one, answers.get) != truth(other, answers.get) for answers in possible(asked(one, other)))


def is_sample(thing):
    """Whether the thing is a sample by q7 but for its letters."""
    if type(thing) is not tuple or not 1 <= len(thing) <= 2 or len({record[1] for record in thing}) < len(thing):
        return False
    for record in thing:
        kind, uid, change, flags, turn, _ = record
        right = (type(record) is tuple and kind == "kept" and between(1, 999999999)(uid) and between(1, 999999999)(change)
                 and type(flags) is tuple and len(flags) <= 8 and all(matches(HOUSE, flag) for flag in flags)
                 and list(flags) == sorted(set(flags)) and between(0, 10000)(turn))
        if not right:
            return False
    return True
