"""The tests of queries: which are right, how they are written and read (q1)."""

from oncemail.addresses import bare_address, is_address, write_address
from oncemail.headers import is_proper_name, proper_name
from oncemail.names import is_flag
from oncemail.signs import DIGITS, SMALL, consists_of, is_integer, is_word

TERM_LENGTH = 30
WORD_LENGTH = 400
NUMBER_DIGITS = 9
LAST_UID = 999999999
LAST_TURN = 10000
LEAST_SIZE = 1000
GREATEST_SIZE = 19999


def is_term(thing):
    """Whether the thing is a term that a test can have."""
    return type(thing) is str and 1 <= len(thing) <= TERM_LENGTH and consists_of(thing, SMALL + DIGITS)


def is_thread_word(thing):
    """Whether the thing is a word that a test can have."""
    return is_word(thing) and len(thing) <= WORD_LENGTH


def is_size(thing):
    """Whether the thing is a size that a test can have."""
    return is_integer(thing) and LEAST_SIZE <= thing <= GREATEST_SIZE


def is_since(thing):
    """Whether the thing is a turn that a test can have."""
    return is_integer(thing) and 1 <= thing <= LAST_TURN


def is_uid(thing):
    """Whether the thing is a uid."""
    return is_integer(thing) and 1 <= thing <= LAST_UID


# The kinds of the parts of each test, behind its first word.
PARTS = {
    "all": (),
    "from": ("address",),
    "to": ("address",),
    "cc": ("address",),
    "has": ("name",),
    "header": ("name", "term"),
    "text": ("term",),
    "term": ("term",),
    "size": ("size",),
    "since": ("turn",),
    "uid": ("uid", "uid"),
    "flag": ("flag",),
    "thread": ("word",),
}


def is_part(kind, thing):
    """Whether the thing is a right part of this kind."""
    if kind == "address":
        return is_address(thing)
    if kind == "name":
        return is_proper_name(thing)
    if kind == "term":
        return is_term(thing)
    if kind == "size":
        return is_size(thing)
    if kind == "turn":
        return is_since(thing)
    if kind == "uid":
        return is_uid(thing)
    if kind == "flag":
        return is_flag(thing)
    return is_thread_word(thing)


def is_test(thing):
    """Whether a tuple that is not empty is a test."""
    if type(thing[0]) is not str:
        return False
    kinds = PARTS.get(thing[0], None)
    if kinds is None or len(thing) != len(kinds) + 1:
        return False
    if not all([is_part(kind, part) for kind, part in zip(kinds, thing[1:])]):
        return False
    return thing[0] != "uid" or thing[1] <= thing[2]


def write_test(test):
    """The text of a test."""
    kind = test[0]
    if kind == "header" and test[1] == "Subject":
        return f"subject {test[2]}"
    if kind in ("from", "to", "cc"):
        return f"{kind} {write_address(test[1])}"
    if kind == "uid":
        return f"uid {uids_text(test[1], test[2])}"
    return " ".join([str(part) for part in test])


def uids_text(low, high):
    """The first way to write the uids from low to high."""
    if low == high:
        return f"{low}"
    if high == LAST_UID:
        return f"{low}-"
    return f"{low}-{high}"


def address_parts(word):
    """The part of a test that is an address; None if the word is none, here and below."""
    address = bare_address(word)
    return None if address is None else (address,)


def right_parts(check, part):
    """The part as a tuple, if it is a right one."""
    return (part,) if check(part) else None


def name_parts(word):
    """The part of a test that is a name of headers, its letters of any case in the word."""
    return right_parts(is_proper_name, proper_name(word))


def term_parts(word):
    """The part of a test that is a term, its letters of any case in the word."""
    return right_parts(is_term, word.lower())


def number_in(word):
    """The integer that a word writes without leading zeros, 0 if it writes none."""
    if not 1 <= len(word) <= NUMBER_DIGITS or word[0] == "0" or not consists_of(word, DIGITS):
        return 0
    return int(word)


def size_parts(word):
    """The part of a test that is a size."""
    return right_parts(is_size, number_in(word))


def since_parts(word):
    """The part of a test that is a turn."""
    return right_parts(is_since, number_in(word))


def uid_parts(word):
    """The two parts of a test of uids."""
    first, line, last = word.partition("-")
    low = number_in(first)
    if line == "":
        high = low
    elif last == "":
        high = LAST_UID
    else:
        high = number_in(last)
    return (low, high) if 1 <= low <= high else None


def flag_parts(word):
    """The part of a test that is a flag."""
    return right_parts(is_flag, word)


def word_parts(word):
    """The part of a test that is any word."""
    return right_parts(is_thread_word, word)


# How each word behind the word of a test is read.
ARGUMENTS = {
    "all": (),
    "from": (address_parts,),
    "to": (address_parts,),
    "cc": (address_parts,),
    "has": (name_parts,),
    "header": (name_parts, term_parts),
    "subject": (term_parts,),
    "text": (term_parts,),
    "term": (term_parts,),
    "size": (size_parts,),
    "since": (since_parts,),
    "uid": (uid_parts,),
    "flag": (flag_parts,),
    "thread": (word_parts,),
}
