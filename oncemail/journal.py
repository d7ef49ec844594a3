"""Journals: lines of numbered entries (j2 to j4)."""

from oncemail.errors import BadPlain
from oncemail.plain import read_plain, show_plain
from oncemail.signs import is_natural

REMAINDER = 99991
# The words with which a journal begins, and which stand nowhere else in it.
FIRST = ("house", "short")


def journal_line(n, entry):
    """The line of the entry with the number n, with its line feed."""
    text = show_plain(entry)
    return f"{n} {sum_of(n, text)} {text}\n"


def sum_of(n, text):
    """The sum of the line with this number and plain text."""
    return (n + sum([ord(sign) * place for place, sign in enumerate(text, start=1)])) % REMAINDER


def read_journal(text):
    """The entries of the longest right beginning of a journal, and its length."""
    entries = []
    length = 0
    lines = text.split("\n")
    # What stands behind the last line feed is not ended.
    for line in lines[:-1]:
        entry = entry_of(len(entries), line)
        if entry is None:
            break
        entries.append(entry)
        length += len(line) + 1
    return tuple(entries), length


def entry_of(n, line):
    """The entry of the line with the number n, or None if the line is not right."""
    number, _, rest = line.partition(" ")
    told, _, plain = rest.partition(" ")
    # Only digits are numbers here, so that the written numbers are compared.
    if number != str(n) or told != str(sum_of(n, plain)):
        return None
    entry = plain_or_none(plain)
    if not has_form(entry) or (entry[0] in FIRST) != (n == 0):
        return None
    return entry


def plain_or_none(text):
    """The plain value of a text, or None if it has none."""
    try:
        return read_plain(text)
    except BadPlain:
        return None


def has_form(thing):
    """Whether a plain value has the form of an entry."""
    if type(thing) is not tuple or thing == () or type(thing[0]) is not str:
        return False
    checks = FORMS.get(thing[0], None)
    if checks is None or len(thing) != len(checks) + 1:
        return False
    for check, part in zip(checks, thing[1:]):
        if not check(part):
            return False
    return True


def is_any(part):
    """Whether a part is a plain value, which every part is."""
    return True


def is_number(part):
    """Whether a part is an integer from 0."""
    return is_natural(part)


def is_life(part):
    """Whether a part is an integer from 1."""
    return is_natural(part) and part > 0


def is_word(part):
    """Whether a part is a text."""
    return type(part) is str


def is_row(part):
    """Whether a part is a tuple."""
    return type(part) is tuple


# What the parts of each entry must be, behind its first word.
FORMS = {
    "house": (is_any, is_any, is_any, is_any),
    "short": (is_any,),
    "deed": (is_number, is_word, is_word, is_life, is_number, is_row),
    "met": (is_number, is_word, is_word, is_life, is_number),
    "came": (is_number, is_word, is_number, is_row),
    "offer": (is_number, is_word, is_number),
    "gone": (is_number, is_word, is_number),
    "up": (is_number, is_word, is_number),
    "low": (is_number, is_word, is_number),
}
