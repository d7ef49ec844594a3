"""Letters and records for which tests answer as is wanted (q7, q8).

The answers are a dict of tests and whether they hold, and keep the rules of q8.
"""

from oncemail.addresses import write_address
from oncemail.hanging import ADDRESS_HEADERS, edge_uids, is_within
from oncemail.letters import size_of
from oncemail.reading import LINE_SIGNS
from oncemail.signs import LETTERS


def sample_for(answers):
    """A record with these answers, and with a thread a further record that gives it its names; by uid."""
    held = held_tests(answers)
    flags = tuple(sorted([test[1] for test in held if test[0] == "flag"]))
    record = ("kept", uid_for(answers), 1, flags, turn_for(answers), letter_for(answers))
    words = [test[1] for test in held if test[0] == "thread"]
    if len(words) == 0:
        return (record,)
    headers = tuple([("Re", word) for word in words + [free_mark(answers)]])
    uid = 2 if record[1] == 1 else 1
    other = ("kept", uid, 1, (), 0, ("letter", headers, ("lines", ())))
    return (record, other) if uid == 2 else (other, record)


def held_tests(answers):
    """The tests that hold."""
    return [test for test, held in answers.items() if held]


def uid_for(answers):
    """A uid for which the tests of uids have these answers."""
    tests = [test for test in answers if test[0] == "uid"]
    like = [uid for uid in edge_uids(tests) if all([is_within(uid, test) == answers[test] for test in tests])]
    return like[0]


def turn_for(answers):
    """A turn for which the tests of turns have these answers."""
    return max([test[1] for test in held_tests(answers) if test[0] == "since"], default=0)


def letter_for(answers):
    """A letter for which its tests have these answers, and which a further one can join in threads."""
    held = held_tests(answers)
    lines = tuple([test[1] for test in held if test[0] == "text"])
    letter = ("letter", headers_for(answers), ("lines", lines))
    least = max([test[1] + 1 for test in held if test[0] == "size"], default=0)
    return grown(letter, least)


def grown(letter, least):
    """A letter with lines, with further ones without terms until it has at least this size."""
    _, headers, (_, lines) = letter
    more, rest = divmod(max(0, least - size_of(letter)), LINE_SIGNS + 1)
    lines = lines + ("." * LINE_SIGNS,) * more
    if rest > 0:
        lines = lines + ("." * (rest - 1),)
    return ("letter", headers, ("lines", lines))


def headers_for(answers):
    """The headers of a letter for which its tests have these answers."""
    held = held_tests(answers)
    mark = free_mark(answers)
    # The first From is the writer, and the first Id and the first of the references join threads.
    headers = [address_header(test) for test in held if test[0] == "from"]
    if len([test for test in held if test[0] == "thread"]) > 0:
        headers.append(("Re" if answers.get(("has", "Re"), True) else "Id", mark))
    headers.extend([address_header(test) for test in held if test[0] == "to" or test[0] == "cc"])
    headers.extend([(test[1], "") for test in held if test[0] == "has"])
    headers.extend([(test[1], header_text(test, mark)) for test in held if test[0] == "header"])
    terms = [test[1] for test in held if test[0] == "term"]
    headers.append((free_name(answers), " ".join(terms)))
    return tuple(headers)


def address_header(test):
    """The header for which a test of an address holds."""
    return (ADDRESS_HEADERS[test[0]], write_address(test[1]))


def header_text(test, mark):
    """The text for which a test of a header holds, and which is no id, no coding and no tested word."""
    _, name, term = test
    if name == "Re":
        return f"{mark}{term}"
    if name == "Id" or name == "Coding":
        return f"{mark} {term}"
    return term


def free_mark(answers):
    """A word without terms with which no word of a tested thread begins."""
    words = [test[1] for test in answers if test[0] == "thread"]
    mark = "!"
    # No word begins with two of these marks, so there is always one that is free.
    while any([word.startswith(mark) for word in words]):
        mark = f"-{mark}"
    return mark


def free_name(answers):
    """A name of headers that no test asks for."""
    taken = {test[1]: True for test in answers if test[0] == "has" or test[0] == "header"}
    return [letter for letter in LETTERS.upper() if letter not in taken][0]
