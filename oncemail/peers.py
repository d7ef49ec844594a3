"""What houses say to each other (k6)."""

from oncemail.addresses import bare_address
from oncemail.journeys import CAUSES
from oncemail.letters import letter_or_none, write_letter
from oncemail.names import is_device, is_house, is_name
from oncemail.talk import read_number, say

# How many words each command has, and which have a literal.
LENGTHS = {"low": 2, "give": 11, "note": 10, "ask": 2, "took": 2, "had": 2, "not": 2}
GIVING = ("give",)


def command_of(words, literal, house):
    """The command (kind, number, entry or None) that this house hears, or None if it is a fault."""
    kind = words[0] if len(words) > 0 else ""
    if LENGTHS.get(kind, 0) != len(words) or (literal is not None) != (kind in GIVING):
        return None
    number = read_number(words[1])
    if number is None:
        return None
    if kind == "give":
        thing = letter_entry(words, literal, house)
    elif kind == "note":
        thing = notice_entry(words, house)
    else:
        return kind, number, None
    return None if thing is None else (kind, number, thing)


def letter_entry(words, literal, house):
    """The entry of a letter that was given, or None."""
    name = name_of(words[2:7])
    many = read_number(words[10])
    if name is None or many is None or not are_addresses(words[7:10]):
        return None
    if words[9].partition("@")[2] != house:
        return None
    trail, text = trail_and_text(literal, many)
    letter = letter_or_none(text)
    if trail is None or letter is None:
        return None
    return ("letter", name, words[7], words[8], trail, words[9], letter)


def trail_and_text(literal, many):
    """The trail that the literal begins with, None if it is none, and what stands behind it."""
    # No more lines can stand there than the literal has signs.
    lines = literal.split("\n", min(many, len(literal) + 1))
    trail = tuple(lines[:-1])
    if len(trail) != many or not are_addresses(trail):
        return None, ""
    return trail, lines[-1]


def notice_entry(words, house):
    """The entry of a notice, or None."""
    name = name_of(words[2:7])
    if name is None or not are_addresses(words[7:9]) or words[9] not in CAUSES:
        return None
    if words[7].partition("@")[2] != house:
        return None
    return ("notice", name, words[7], words[8], words[9])


def name_of(words):
    """The name of a letter, or None."""
    house, user, device, life, number = words
    life = read_number(life)
    number = read_number(number)
    if not is_house(house) or not is_name(user) or not is_device(device):
        return None
    if life is None or number is None or life == 0 or number == 0:
        return None
    return ("name", house, user, device, life, number)


def are_addresses(words):
    """Whether all words are addresses."""
    return all([bare_address(word) is not None for word in words])


def say_entry(number, entry):
    """The signs by which an entry is said to its house."""
    name = [str(part) for part in entry[1][1:]]
    if entry[0] == "notice":
        return say(["note", str(number), *name, *entry[2:]], None)
    _, _, teller, told, trail, reader, letter = entry
    words = ["give", str(number), *name, teller, told, reader, str(len(trail))]
    return say(words, "".join([f"{address}\n" for address in trail]) + write_letter(letter))
