"""Deeds as the words of commands, and back (k4)."""

from oncemail.talk import read_box, read_flags, read_number, read_uids, show_flags, show_uids

# The kinds of words in which each deed is said; a literal is its last part.
SHAPES = {
    "make": ("name",),
    "unmake": ("box",),
    "rename": ("box", "name"),
    "grant": ("box", "name", "letters"),
    "put": ("box", "flags"),
    "flag": ("box", "uids", "name", "flags"),
    "copy": ("box", "uids", "box"),
    "move": ("box", "uids", "box"),
    "take": ("box", "uids"),
    "leave": ("box",),
    "filter": (),
    "send": ("addresses",),
    "back": ("life", "number"),
}
WITH_LITERAL = ("put", "filter", "send")


def deed_of(words, literal):
    """The deed of these words, or None if they tell none."""
    kind = words[0] if len(words) > 0 else ""
    shape = SHAPES.get(kind, None)
    if shape is None or len(words) != len(shape) + 1 or (literal is not None) != (kind in WITH_LITERAL):
        return None
    parts = [kind]
    for part_kind, word in zip(shape, words[1:]):
        part = read_part(part_kind, word)
        if part is None:
            return None
        parts.append(part)
    if literal is not None:
        parts.append(literal)
    return tuple(parts)


def words_of(deed):
    """The words and the literal in which a deed is said."""
    kind = deed[0]
    words = [kind]
    for part_kind, part in zip(SHAPES[kind], deed[1:]):
        words.append(show_part(part_kind, part))
    literal = deed[-1] if kind in WITH_LITERAL else None
    return tuple(words), literal


def read_part(part_kind, word):
    """The part of a deed that a word of this kind tells, or None."""
    if part_kind == "box":
        return read_box(word)
    if part_kind == "uids":
        return read_uids(word)
    if part_kind == "flags" or part_kind == "addresses":
        return read_flags(word)
    if part_kind == "letters":
        return "" if word == "-" else word
    if part_kind == "number" or part_kind == "life":
        number = read_number(word)
        return None if part_kind == "life" and number == 0 else number
    return word


def show_part(part_kind, part):
    """The word of this kind that tells a part of a deed."""
    if part_kind == "uids":
        return show_uids(part)
    if part_kind == "flags":
        return show_flags(part)
    if part_kind == "addresses":
        return show_flags(part) if are_words(part) else "-"
    if part_kind == "letters" and part == "":
        return "-"
    return str(part)


def are_words(addresses):
    """Whether all addresses can be said as they stand, separated by commas."""
    for address in addresses:
        if address == "" or " " in address or "\n" in address or "," in address:
            return False
    return True
