"""Letters from lines, and the errors of reading (l5, l6)."""

from oncemail.codings import line_of_fault
from oncemail.errors import BadLetter
from oncemail.headers import HEADER_SIGNS, MOST_HEADERS, are_coded, is_header_name, proper_name
from oncemail.signs import DIGITS, LETTERS, consists_of

LINE_SIGNS = 500
MARK_SIGNS = 20
MOST_PARTS = 8
DEPTH = 4


def letter_from(lines, start, end, depth):
    """The letter of the lines from start up to end, within depth other letters."""
    blank = place_of_empty(lines, start, end)
    headers, mark = headers_from(lines, start, blank, depth)
    if len(headers) == 0:
        raise BadLetter(blank + 1, "no header")
    if mark is None:
        return ("letter", headers, ("lines", body_from(headers, lines, blank + 1, end)))
    ranges = part_ranges(lines, blank + 1, end, mark)
    parts = [letter_from(lines, first, behind, depth + 1) for first, behind in ranges]
    return ("letter", headers, ("parts", tuple(parts)))


def place_of_empty(lines, start, end):
    """The place of the first empty line, or end."""
    for at in range(start, end):
        if lines[at] == "":
            return at
    return end


def headers_from(lines, start, end, depth):
    """The headers of the header lines, and the text of the header Parts or None."""
    headers = []
    mark = None
    at = start
    while at < end:
        behind = end_of_header(lines, at, end)
        name, text = header_from(lines, at, behind)
        if name == "Parts":
            if mark is not None or not is_mark(text):
                raise BadLetter(at + 1, "bad parts")
            if depth == DEPTH:
                raise BadLetter(at + 1, "too deep")
            mark = text
        else:
            if len(headers) == MOST_HEADERS:
                raise BadLetter(at + 1, "many headers")
            headers.append((name, text))
        check_lengths(lines, at + 1, behind)
        at = behind
    return tuple(headers), mark


def end_of_header(lines, at, end):
    """The place behind the header that begins at this line."""
    behind = at + 1
    while behind < end and lines[behind].startswith(" "):
        behind += 1
    return behind


def header_from(lines, at, behind):
    """The name and the text of the header in the lines from at up to behind."""
    check_lengths(lines, at, at + 1)
    word, colon, rest = lines[at].partition(":")
    if colon == "" or not is_header_name(word):
        raise BadLetter(at + 1, "bad header")
    pieces = [rest.strip(" ")] + [line.strip(" ") for line in lines[at + 1:behind]]
    text = " ".join([piece for piece in pieces if piece != ""])
    if len(word) + len(text) > HEADER_SIGNS:
        raise BadLetter(at + 1, "long header")
    return proper_name(word), text


def check_lengths(lines, start, end):
    """Refuses the first long line from start up to end."""
    for at in range(start, end):
        if len(lines[at]) > LINE_SIGNS:
            raise BadLetter(at + 1, "long line")


def is_mark(text):
    """Whether a text can be that of a header Parts."""
    return 1 <= len(text) <= MARK_SIGNS and consists_of(text, LETTERS + DIGITS)


def body_from(headers, lines, start, end):
    """The lines of a body without parts, a tuple."""
    check_lengths(lines, start, end)
    body = tuple(lines[start:end])
    if are_coded(headers):
        line = line_of_fault(body)
        if line > 0:
            raise BadLetter(start + line, "bad coding")
    return body


def part_ranges(lines, start, end, mark):
    """Where each part begins and ends, a list of pairs of places."""
    opening = f"--{mark}"
    closing = f"--{mark}--"
    if start >= end:
        raise BadLetter(end + 1, "bad boundary")
    if lines[start] != opening:
        raise BadLetter(start + 1, "bad boundary")
    ranges = []
    first = start + 1
    for at in range(start + 1, end):
        if lines[at] != opening and lines[at] != closing:
            continue
        ranges.append((first, at))
        first = at + 1
        if lines[at] == closing:
            if first < end:
                raise BadLetter(first + 1, "bad boundary")
            return ranges
        if len(ranges) == MOST_PARTS:
            raise BadLetter(at + 1, "many parts")
    raise BadLetter(end + 1, "bad boundary")
