"""What the document says of indexes, filters and boxes, in plain and slow words, for comparison."""

import itertools
import re

from tests.oracles import Fault, thread_names, written
from tests.query_oracles import (address_in, all_headers, asked, content, is_address, leaves, matches, possible, read,
                                 right_query, tells, terms, truth, written_words)

NAME = re.compile(r"[a-z][a-z0-9]{0,11}\Z")
FLAG = re.compile(r"[a-z]{1,12}\Z")


def row_of(record):
    headers = record[5][1]
    ids = [text for name, text in headers if name == "Id"][:1]
    word = ids[0] if ids and re.match("[^ ]+\\Z", ids[0]) else ""
    return (record[1], word, tuple(word for name, text in headers if name == "Re" for word in text.split()))


def names_of(records, uid):
    return thread_names([row_of(record) for record in records], uid)


def all_tests(record):
    """The tests with right arguments of which some may hold for a record, but those of numbers and threads."""
    letter = record[5]
    texts = [content(letter)] + [text for _, text in all_headers(letter)]
    words = {word for text in texts for word in terms(text) if len(word) <= 30}
    addresses = {address_in(piece) for text in texts for piece in text.split(",")} - {None}
    names = {name for name, _ in letter[1]}
    tests = [(kind, address) for kind in ("from", "to", "cc") for address in addresses]
    tests += [("has", name) for name in names] + [("header", name, word) for name in names for word in words]
    tests += [(kind, word) for kind in ("text", "term") for word in words] + [("flag", flag) for flag in record[3]]
    return tests


def index_text(records):
    """The text of an index of records."""
    records = sorted(records, key=lambda record: record[1])
    lines = []
    told = {}
    for record in records:
        uid, word, references = row_of(record)
        lines.append(f"record {uid} {len(written(record[5]))} {record[4]}")
        lines += [f"id {uid} {word}"] if word else []
        lines += [f"re {uid} {' '.join(references)}"] if references else []
        for test in all_tests(record):
            if tells(test, record, ()):
                told.setdefault(" ".join(written_words(test)), {})[uid] = True
    for text in sorted(told):
        lines.append(f"{text}: " + " ".join(str(uid) for uid in sorted(told[text])))
    return "".join(line + "\n" for line in lines)


def found(records, query):
    """The uids of the records for which a query holds, with the names of each."""
    held = [record[1] for record in records
            if truth(query, lambda test: tells(test, record, names_of(records, record[1])))]
    return tuple(sorted(held))


def are_flags(thing):
    return (type(thing) is tuple and len(thing) <= 8 and all(matches(FLAG, flag) for flag in thing)
            and list(thing) == sorted(set(thing)))


def right_deed(thing):
    if type(thing) is not tuple or not thing or type(thing[0]) is not str:
        return False
    kind, rest = thing[0], thing[1:]
    if kind == "file":
        return len(rest) == 2 and matches(NAME, rest[0]) and are_flags(rest[1])
    if kind == "keep":
        return len(rest) == 1 and are_flags(rest[0])
    if kind == "forward":
        return len(rest) == 1 and is_address(rest[0])
    return kind in ("refuse", "drop", "stop") and rest == ()


def right_rule(thing):
    return (type(thing) is tuple and len(thing) == 3 and type(thing[0]) is str and thing[0] == "rule"
            and right_query(thing[1]) and not any(test[0] in ("uid", "flag", "thread") for test in leaves(thing[1]))
            and type(thing[2]) is tuple and 1 <= len(thing[2]) <= 8 and all(right_deed(deed) for deed in thing[2]))


def right_filter(thing):
    return (type(thing) is tuple and len(thing) == 2 and type(thing[0]) is str and thing[0] == "filter"
            and type(thing[1]) is tuple and len(thing[1]) <= 40 and all(right_rule(rule) for rule in thing[1])
            and len(filter_text(thing)) <= 5000)


def filter_text(sieve):
    text = ""
    for _, query, deeds in sieve[1]:
        text += "when " + " ".join(written_words(query)) + "\n"
        for deed in deeds:
            words = [part[1] + "@" + part[2] if is_address(part) else part for part in deed]
            words = [word for part in words for word in (part if type(part) is tuple else (part,))]
            text += "  " + " ".join(words) + "\n"
    return text


def read_sieve(text):
    """The filter of a text; raises Fault with the line and the reason."""
    if len(text) > 5000:
        raise Fault(0, "too long")
    lines = text.split("\n")
    rows = [(number, line) for number, line in enumerate(lines, 1) if line.strip(" ") and line.strip(" ")[0] != "#"]
    faults = []
    rules = []
    for at, (number, line) in enumerate(rows):
        if line[0] != " ":
            rule, found = read_rule(number, line, len(rules))
            if all(later[0] != " " for _, later in rows[at + 1:at + 2]):
                found.append("no deed")
            rules.append(rule)
        else:
            found = [] if rules else ["no rule"]
            if rules and len(rules[-1][2]) >= 8:
                found.append("many deeds")
            deed, more = read_deed(line.split())
            found += more
            if rules:
                rules[-1][2].append(deed)
        faults += [(number, reason) for reason in found[:1]]
    if faults:
        raise Fault(*min(faults))
    sieve = ("filter", tuple((kind, query, tuple(deeds)) for kind, query, deeds in rules))
    if len(filter_text(sieve)) > 5000:
        raise Fault(0, "too long")
    return sieve


def read_rule(number, line, many):
    found = []
    query = None
    if line.split(" ")[0] != "when":
        found.append("unknown line")
    if many == 40:
        found.append("many rules")
    try:
        query = read(line[4:].strip(" "))
        if any(test[0] in ("uid", "flag", "thread") for test in leaves(query)):
            found.append("bad query")
    except Fault:
        found.append("bad query")
    return ("rule", query, []), found


def read_deed(words):
    kind, *rest = words
    many = {"file": range(1, 999), "keep": range(0, 999), "forward": (1,), "refuse": (0,), "drop": (0,), "stop": (0,)}
    if kind not in many or len(rest) not in many[kind]:
        return None, ["bad deed"]
    if kind in ("refuse", "drop", "stop"):
        return (kind,), []
    if kind == "forward":
        user, _, house = rest[0].partition("@")
        address = ("at", user, house)
        return (kind, address), [] if is_address(address) else ["bad address"]
    found = []
    if kind == "file" and not matches(NAME, rest[0]):
        found.append("bad box")
    flags = rest[1:] if kind == "file" else rest
    if not all(matches(FLAG, flag) for flag in flags):
        found.append("bad flag")
    if len(set(flags)) > 8:
        found.append("many flags")
    return (kind, *rest[:len(rest) - len(flags)], tuple(sorted(set(flags)))), found


def outcome(sieve, answer):
    """The outcome of a filter where answer tells of the tests."""
    boxes, forward, done = [], None, False
    stopped = False
    for _, query, deeds in sieve[1]:
        if stopped or not truth(query, answer):
            continue
        for deed in deeds:
            if deed == ("refuse",):
                return ("refused",)
            if deed == ("stop",):
                stopped = True
                break
            done = True
            if deed[0] == "forward":
                forward = forward or deed[1]
            if deed[0] in ("file", "keep"):
                name = deed[1] if deed[0] == "file" else "inbox"
                if name not in [box for box, _ in boxes]:
                    boxes.append((name, []))
                flags = dict(boxes)[name]
                for flag in deed[-1]:
                    if flag not in flags and len(flags) < 8:
                        flags.append(flag)
    if not done:
        boxes.append(("inbox", []))
    if not boxes and forward is None:
        return ("drop",)
    return ("deeds", tuple((box, tuple(sorted(flags))) for box, flags in boxes), forward)


def outcome_of_letter(sieve, letter, turn):
    return outcome(sieve, lambda test: tells(test, ("kept", 1, 1, (), turn, letter), ()))


def queries_of(*sieves):
    return [query for sieve in sieves for _, query, _ in sieve[1]]


def are_told_apart(one, other):
    return any(outcome(one, answers.get) != outcome(other, answers.get)
               for answers in possible(asked(*queries_of(one, other))))


def is_reached(sieve, answer, place):
    """Whether the deeds of a rule are begun where answer tells of the tests."""
    before = [deed for _, query, deeds in sieve[1][:place] if truth(query, answer) for deed in deeds]
    return truth(sieve[1][place][1], answer) and ("stop",) not in before and ("refuse",) not in before


def can_be_reached(sieve, place):
    return any(is_reached(sieve, answers.get, place) for answers in possible(asked(*queries_of(sieve))))


def without(sieve, left_out):
    """The filter without the deeds at these places (rule, deed)."""
    rules = []
    for at, (_, query, deeds) in enumerate(sieve[1]):
        kept = tuple(deed for number, deed in enumerate(deeds) if (at, number) not in left_out)
        if kept:
            rules.append(("rule", query, kept))
    return ("filter", tuple(rules))


def places(sieve):
    return [(at, number) for at, rule in enumerate(sieve[1]) for number in range(len(rule[2]))]


def comes_from(short, sieve):
    """Whether a filter comes from another one by leaving out deeds."""
    return short in (without(sieve, some) for many in range(len(places(sieve)) + 1)
                     for some in itertools.combinations(places(sieve), many))


def is_tight(sieve):
    """Whether each further deed that is left out changes the outcome."""
    return all(are_told_apart(sieve, without(sieve, {place})) for place in places(sieve))
