"""Which things are names, flags, uids and deeds (c2, c7, c8)."""

from oncemail.signs import DIGITS, SMALL, are_ascending, consists_of, is_integer, is_text

RIGHTS = "lrsiea"
MODES = ("add", "drop", "set")


def is_house(thing):
    """Whether the thing is a name of a house."""
    return is_small_word(thing, 12)


def is_name(thing):
    """Whether the thing is a name of a user, a group or a box."""
    if type(thing) is not str or not 1 <= len(thing) <= 12:
        return False
    return thing[0] in SMALL and consists_of(thing, SMALL + DIGITS)


def is_device(thing):
    """Whether the thing is a name of a device."""
    return is_small_word(thing, 8)


def is_flag(thing):
    """Whether the thing is a flag."""
    return is_small_word(thing, 12)


def is_small_word(thing, most):
    """Whether the thing is a text of 1 to most small letters."""
    return type(thing) is str and 1 <= len(thing) <= most and consists_of(thing, SMALL)


def are_flags(thing):
    """Whether the thing is a tuple of flags, ascending and unlike."""
    if type(thing) is not tuple or not all([is_flag(flag) for flag in thing]):
        return False
    return are_ascending(thing)


def are_uids(thing):
    """Whether the thing is a tuple of integers but 0, ascending and unlike."""
    if type(thing) is not tuple or not all([is_integer(uid) for uid in thing]):
        return False
    return 0 not in thing and are_ascending(thing)


def completed(letters):
    """The completed letters of rights, or None if these are none."""
    if not are_rights(letters):
        return None
    if "a" in letters:
        return RIGHTS
    if "s" in letters or "e" in letters:
        letters = letters + "r"
    if letters != "":
        letters = letters + "l"
    return in_order(letters)


def are_rights(thing):
    """Whether the thing is a text of some of the letters of rights, in order."""
    return type(thing) is str and thing == in_order(thing)


def in_order(letters):
    """The letters of rights that stand in the text, each once, in their order."""
    return "".join([letter for letter in RIGHTS if letter in letters])


def is_box(thing):
    """Whether the thing is a user's number of a box, or -k for the box of deed k."""
    return is_integer(thing)


def is_content(thing):
    """Whether the thing is a text as a deed holds it: any text."""
    return is_text(thing)


def is_mode(thing):
    """Whether the thing is a mode of a flag deed."""
    return thing in MODES


def is_count(thing):
    """Whether the thing is an integer from 1."""
    return is_integer(thing) and thing >= 1


def are_texts(thing):
    """Whether the thing is a tuple of texts."""
    return type(thing) is tuple and all([is_text(text) for text in thing])


# What the parts of each deed must be, behind its first word.
PARTS = {
    "make": (is_name,),
    "unmake": (is_box,),
    "rename": (is_box, is_name),
    "grant": (is_box, is_name, are_rights),
    "put": (is_box, are_flags, is_content),
    "flag": (is_box, are_uids, is_mode, are_flags),
    "copy": (is_box, are_uids, is_box),
    "move": (is_box, are_uids, is_box),
    "take": (is_box, are_uids),
    "leave": (is_box,),
    "filter": (is_content,),
    "send": (are_texts, is_content),
    "back": (is_count, is_count),
}


def is_deed(thing):
    """Whether the thing is a deed of a user."""
    if type(thing) is not tuple or thing == () or not isinstance(thing[0], str):
        return False
    checks = PARTS.get(thing[0], None)
    if checks is None or len(thing) != len(checks) + 1:
        return False
    for check, part in zip(checks, thing[1:]):
        if not check(part):
            return False
    return True
