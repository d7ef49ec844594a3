"""What is read of letters: addresses, terms, parts; and answers to them (l8 to l11)."""

from oncemail.addresses import read_address, write_address
from oncemail.codings import read_coding
from oncemail.errors import BadText
from oncemail.headers import HEADER_SIGNS, are_coded, first_text, proper_name
from oncemail.letters import size_of
from oncemail.signs import is_word, words_in

TERM_SIGNS = "abcdefghijklmnopqrstuvwxyz0123456789"


def headers_of(letter, name):
    """The texts of the headers with this name, in order."""
    wanted = proper_name(name)
    return tuple([text for other, text in letter[1] if other == wanted])


def writer_of(letter):
    """The address of the writer of a letter, or None."""
    text = first_text(letter[1], "From")
    if text is None:
        return None
    return address_or_none(text)


def address_or_none(text):
    """The address of a text, or None if it is none."""
    try:
        return read_address(text)
    except BadText:
        return None


def addresses_of(letter, name):
    """The addresses in the headers with this name, in order."""
    pieces = [piece for text in headers_of(letter, name) for piece in text.split(",")]
    found = [address_or_none(piece) for piece in pieces]
    return tuple([address for address in found if address is not None])


def id_of(letter):
    """The id of a letter, or the empty text."""
    text = first_text(letter[1], "Id")
    if text is None or not is_word(text):
        return ""
    return text


def references_of(letter):
    """The words of all headers Re, in order."""
    return tuple([word for text in headers_of(letter, "Re") for word in words_in(text)])


def content_of(letter):
    """The text that the lines of a letter and of its parts have or decode to."""
    _, headers, body = letter
    kind, held = body
    if kind == "parts":
        return "\n".join([content_of(part) for part in held])
    if are_coded(headers):
        return read_coding(held)
    return "\n".join(held)


def terms_in(text):
    """The terms of a text, each once, ascending."""
    signs = [sign if sign in TERM_SIGNS else " " for sign in text.lower()]
    return tuple(sorted(set(words_in("".join(signs)))))


def terms_of(letter, where):
    """The terms that a letter has in this place: "text", "term" or a name of headers."""
    if where == "text":
        return terms_in(content_of(letter))
    if where == "term":
        return terms_in("\n".join([content_of(letter)] + header_texts(letter)))
    return terms_in("\n".join(headers_of(letter, where)))


def header_texts(letter):
    """The texts of all headers of a letter and of its parts, at any depth."""
    _, headers, body = letter
    texts = [text for _, text in headers]
    if body[0] == "parts":
        for part in body[1]:
            texts.extend(header_texts(part))
    return texts


def outline(letter):
    """A row (path, kind, many, size) for the letter and each of its parts."""
    return tuple(rows_below(letter, ()))


def rows_below(letter, path):
    """The rows of the outline for the letter at this path and its parts."""
    kind, held = letter[2]
    rows = [(path, kind, len(held), size_of(letter))]
    if kind == "parts":
        for at, part in enumerate(held):
            rows.extend(rows_below(part, path + (at,)))
    return rows


def part_of(letter, path):
    """The letter at this path."""
    for at in path:
        kind, held = letter[2]
        if kind != "parts" or at >= len(held):
            raise BadText("no part")
        letter = held[at]
    return letter


def answer_to(letter, address, word, lines):
    """The answer to a letter, with this word as its id."""
    writer = writer_of(letter)
    if writer is None:
        raise BadText("no writer")
    headers = [
        ("From", write_address(address)),
        ("To", write_address(writer)),
        ("Id", word),
        ("Subject", answer_subject(first_text(letter[1], "Subject"))),
    ]
    references = answer_references(letter)
    if references != "":
        headers.append(("Re", references))
    return ("letter", tuple(headers), ("lines", lines))


def answer_subject(subject):
    """The subject of an answer to a letter with this one, or with None."""
    if subject is None or subject == "":
        return "Re:"
    if not subject.startswith("Re:"):
        subject = f"Re: {subject}"
    return subject[:HEADER_SIGNS - len("Subject")].rstrip(" ")


def answer_references(letter):
    """The references of an answer to a letter, as the text of a header."""
    words = list(references_of(letter))
    word = id_of(letter)
    if word != "":
        words.append(word)
    room = HEADER_SIGNS - len("Re") + 1
    start = len(words)
    while start > 0 and len(words[start - 1]) + 1 <= room:
        start -= 1
        room -= len(words[start]) + 1
    return " ".join(words[start:])
