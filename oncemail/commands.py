"""Deeds as the words of commands, and back (k4)."""

from oncemail.talk import read_box, read_flags, read_number, read_uids, show_flags, show_uids

# The kinds of words in which each deed is said; a literal is its last part.
SHAPES = {
    "make": ("name",),
    "unmake": ("box",),
    "rename": ("box", "name"),
    "grant": ("box", "name", "letters"),
    "put": ("box", "flags"),
    "flag": ("box", "uids", "name", "flags"),
    "copy": ("box", "uids", "box"),
    "move": ("box", "uids", "box"),
    "take": ("box", "uids"),
    "leave": ("box",),
    "filter": (),
    "send": ("addresses",),
    "back": ("life", "number"),
}
WITH_LITERAL = ("put", "filter", "send")


def deed_of(words, literal):
    """The deed of these words, or None if they tell none."""
    kind = words[0] if len(words) > 0 else ""
    shape = SHAPES.get(kind, None)
    if shape is None or len(words) != len(shape) + 1 or (literal is not None) != (kind in WITH_LITERAL):
        return None
    parts = [kind]
    for part_kind, word in zip(shape, words[1:]):
        reader = READERS[part_kind]
        part = reader(word)
        if part is None:
            return None
        parts.append(part)
    if literal is not None:
        parts.append(literal)
    return tuple(parts)


def words_of(deed):
    """The words and the literal in which a deed is said."""
    kind = deed[0]
    words = [kind]
    for part_kind, part in zip(SHAPES[kind], deed[1:]):
        writer = WRITERS[part_kind]
        words.append(writer(part))
    return tuple(words), deed[-1] if kind in WITH_LITERAL else None


def as_it_is(word):
    """A word that may be any."""
    return word


def read_life(word):
    """The life of a word, or None."""
    life = read_number(word)
    return None if life == 0 else life


def read_letters(word):
    """The letters of rights of a word."""
    return "" if word == "-" else word


def show_letters(letters):
    """The word of letters of rights."""
    return "-" if letters == "" else letters


def show_addresses(addresses):
    """The word of a tuple of addresses; where there is none, that of no addresses."""
    for address in addresses:
        if address == "" or " " in address or "\n" in address or "," in address:
            return "-"
    return show_flags(addresses)


def show_number(number):
    """The word of a number."""
    return str(number)


READERS = {
    "name": as_it_is,
    "box": read_box,
    "letters": read_letters,
    "flags": read_flags,
    "uids": read_uids,
    "addresses": read_flags,
    "life": read_life,
    "number": read_number,
}
WRITERS = {
    "name": as_it_is,
    "box": show_number,
    "letters": show_letters,
    "flags": show_flags,
    "uids": show_uids,
    "addresses": show_addresses,
    "life": show_number,
    "number": show_number,
}
