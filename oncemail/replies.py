"""What a device hears of its house: rows and answers (k5, d3)."""

from oncemail.meant import TWO_BOXED
from oncemail.names import are_flags, are_rights, is_name
from oncemail.talk import read_flags, read_number, read_uids

REASONS = ("order", "name", "text", "from", "many", "none", "rights", "uid", "kept", "there", "full")


def reason_of(words):
    """The reason of the words of a refusal, or None."""
    if len(words) == 2 and words[0] == "no" and words[1] in REASONS:
        return words[1]
    return None


def answer_of(kind, words):
    """The answer of a deed of this kind, or None."""
    reason = reason_of(words)
    if reason is not None:
        return ("no", reason)
    if len(words) != 2 or words[0] != "ok":
        return None
    if words[1] == "-":
        return ("ok", None)
    value = read_uids(words[1]) if kind in TWO_BOXED else read_number(words[1])
    return None if value is None else ("ok", value)


def numbers_of(words):
    """The numbers of all words, a tuple, or None if one is none."""
    numbers = tuple([read_number(word) for word in words])
    return None if None in numbers else numbers


def last_of(words):
    """The number behind ok, or None."""
    return read_number(words[1]) if len(words) == 2 and words[0] == "ok" else None


def box_row(words):
    """The row of the list that these words tell, or None."""
    if len(words) != 5 or words[0] != "box":
        return None
    _, number, owner, name, letters = words
    number = read_number(number)
    if number is None or not is_name(owner) or not is_name(name) or not are_rights(letters):
        return None
    return number, owner, name, letters


def kept_row(words):
    """The row (uid, change, flags, turn) of a record that these words tell, or None."""
    if len(words) != 6 or words[0] != "kept":
        return None
    numbers = numbers_of((words[1], words[2], words[4], words[5]))
    flags = read_flags(words[3])
    if numbers is None or numbers[0] == 0 or not are_flags(flags):
        return None
    return numbers[0], numbers[1], flags, numbers[2]


def gone_uid(words):
    """The uid that these words tell as gone, or None."""
    numbers = numbers_of(words[1:])
    if len(words) != 3 or words[0] != "gone" or numbers is None:
        return None
    return numbers[0]


def since_end(words):
    """The pair of the word and the change behind what came since, or None."""
    if len(words) != 4 or words[0] != "ok" or words[1] not in ("since", "all"):
        return None
    numbers = numbers_of(words[2:])
    return None if numbers is None else (words[1], numbers[1])
