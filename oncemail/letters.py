"""Letters: what they are, their texts and sizes (l1, l3 to l6)."""

from oncemail.codings import line_of_fault
from oncemail.errors import BadLetter
from oncemail.headers import are_coded, are_headers
from oncemail.reading import DEPTH, LINE_SIGNS, MOST_PARTS, letter_from
from oncemail.signs import is_line, lines_in
from oncemail.writing import letter_lines

LETTER_SIGNS = 20000


def is_letter(thing):
    """Whether the thing is a letter."""
    return has_form(thing, DEPTH) and size_of(thing) <= LETTER_SIGNS


def has_form(thing, depth):
    """Whether the thing is a letter but for its size, of at most this depth."""
    if type(thing) is not tuple or len(thing) != 3:
        return False
    kind, headers, body = thing
    if kind != "letter" or not are_headers(headers):
        return False
    if type(body) is not tuple or len(body) != 2 or type(body[1]) is not tuple:
        return False
    if body[0] == "lines":
        return are_body_lines(body[1], are_coded(headers))
    return body[0] == "parts" and are_parts(body[1], depth)


def are_body_lines(row, coded):
    """Whether the things of a tuple are lines of a body, coded or not."""
    if not all([is_line(line) and len(line) <= LINE_SIGNS for line in row]):
        return False
    return not coded or line_of_fault(row) == 0


def are_parts(row, depth):
    """Whether the things of a tuple are parts of a letter of at most this depth."""
    if depth == 0 or not 1 <= len(row) <= MOST_PARTS:
        return False
    return all([has_form(part, depth - 1) for part in row])


def read_letter(text):
    """The letter of a text."""
    if len(text) > LETTER_SIGNS:
        raise BadLetter(0, "too long")
    lines = lines_in(text)
    letter = letter_from(lines, 0, len(lines), 0)
    if size_of(letter) > LETTER_SIGNS:
        raise BadLetter(0, "too long")
    return letter


def letter_or_none(text):
    """The letter of a text, or None if it is none."""
    try:
        return read_letter(text)
    except BadLetter:
        return None


def write_letter(letter):
    """The text of a letter."""
    return "".join([f"{line}\n" for line in letter_lines(letter)])


def size_of(letter):
    """The number of signs of the text of a letter."""
    return sum([len(line) + 1 for line in letter_lines(letter)])
