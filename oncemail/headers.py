"""The headers of letters: names, texts and the lines that they are written in (l1, l3)."""

from oncemail.signs import LETTERS, consists_of, is_line

NAME_SIGNS = 20
HEADER_SIGNS = 498
MOST_HEADERS = 60
FOLD = 78


def is_header_name(word):
    """Whether a text is a name of a header, its letters of any case."""
    if len(word) > NAME_SIGNS:
        return False
    return all([piece != "" and consists_of(piece, LETTERS) for piece in word.split("-")])


def proper_name(word):
    """The name of a header with its capitals and small letters as they must be."""
    return "-".join([piece.capitalize() for piece in word.split("-")])


def is_proper_name(thing):
    """Whether the thing is a name that a header of a letter can have, as it must be written."""
    if type(thing) is not str or not is_header_name(thing):
        return False
    return thing == proper_name(thing) and thing != "Parts"


def are_headers(thing):
    """Whether the thing is a tuple of headers as a letter has them."""
    if type(thing) is not tuple or not 1 <= len(thing) <= MOST_HEADERS:
        return False
    return all([is_header(pair) for pair in thing])


def is_header(thing):
    """Whether the thing is a pair of a name and a text of a header."""
    if type(thing) is not tuple or len(thing) != 2:
        return False
    name, text = thing
    if not is_proper_name(name) or not is_line(text) or text != text.strip(" "):
        return False
    return len(name) + len(text) <= HEADER_SIGNS


def first_text(headers, name):
    """The text of the first header with this name, or None."""
    for other, text in headers:
        if other == name:
            return text
    return None


def are_coded(headers):
    """Whether the lines behind these headers must be a right coding."""
    return first_text(headers, "Coding") == "six"


def header_lines(name, text):
    """The lines in which a header is written."""
    if text == "":
        return [f"{name}:"]
    line = f"{name}: {text}"
    first = len(name) + 2
    lines = []
    while len(line) > FOLD:
        cut = place_of_cut(line, first)
        if cut == 0:
            break
        lines.append(line[:cut])
        line = line[cut:]
        first = 1
    lines.append(line)
    return lines


def place_of_cut(line, first):
    """The place of the gap before which a line is cut; 0 if it has no gap from first on."""
    found = 0
    for at in range(first, len(line) - 1):
        if at > FOLD and found > 0:
            break
        if line[at] == " " and line[at - 1] != " " and line[at + 1] != " ":
            found = at
    return found
