"""Plain values as text on one line (j1)."""

from oncemail.errors import BadPlain
from oncemail.signs import DIGITS, SIGNS, consists_of

MOST_DIGITS = 4000
MOST_DEPTH = 60
WORDS = {"T": True, "F": False, "N": None}
ESCAPES = {"\\": "\\", "\"": "\"", "n": "\n"}


def show_plain(value):
    """The text of a plain value."""
    if value is None:
        return "N"
    if value is True or value is False:
        return "T" if value else "F"
    if isinstance(value, int):
        return str(value)
    if isinstance(value, str):
        return quoted(value)
    parts = " ".join([show_plain(part) for part in value])
    return f"({parts})"


def quoted(text):
    """A text as it is written within a plain value."""
    inner = text.replace("\\", "\\\\").replace("\"", "\\\"").replace("\n", "\\n")
    return "\"" + inner + "\""


def read_plain(text):
    """The plain value of a text."""
    reader = PlainReader(text)
    value = reader.read_value(0)
    reader.read_end()
    return value


class PlainReader:
    """Reads a text from its first sign to its last one."""

    def __init__(self, text):
        self._text = text
        self._at = 0

    def read_value(self, depth):
        """Reads a value that stands within so many tuples."""
        sign = self._sign()
        if sign == "(" and depth < MOST_DEPTH:
            return self._read_tuple(depth + 1)
        if sign == "\"":
            return self._read_text()
        if sign == "-" or sign in DIGITS:
            return self._read_integer(sign)
        if sign not in WORDS:
            raise BadPlain(self._at)
        self._at += 1
        return WORDS[sign]

    def read_end(self):
        """Refuses whatever stands behind the value."""
        if self._at < len(self._text):
            raise BadPlain(self._at)

    def _sign(self):
        """The sign at which the reader is; the text must not end here."""
        if self._at == len(self._text):
            raise BadPlain(self._at)
        return self._text[self._at]

    def _read_tuple(self, depth):
        """Reads a tuple of this depth from its opening on."""
        parts = []
        self._at += 1
        if self._sign() == ")":
            self._at += 1
            return ()
        while True:
            parts.append(self.read_value(depth))
            sign = self._sign()
            if sign != " " and sign != ")":
                raise BadPlain(self._at)
            self._at += 1
            if sign == ")":
                return tuple(parts)

    def _read_integer(self, sign):
        """Reads an integer that begins with this sign."""
        begin = self._at
        if sign == "-":
            self._at += 1
            # There is no -0, so no 0 stands behind the sign.
            if self._sign() not in "123456789":
                raise BadPlain(self._at)
        elif sign == "0":
            self._at += 1
            return 0
        end = min(self._at + MOST_DIGITS, len(self._text))
        while self._at < end and self._text[self._at] in DIGITS:
            self._at += 1
        return int(self._text[begin:self._at])

    def _read_text(self):
        """Reads a text from its first double quote on."""
        pieces = []
        quote = self._at
        self._at += 1
        while True:
            # A quote that was found holds for all escapes ahead of it.
            if quote < self._at:
                quote = self._place_of_quote()
            escape = self._text.find("\\", self._at, quote)
            if escape == -1:
                break
            pieces.append(self._piece(escape))
            self._at = escape + 1
            sign = self._sign()
            if sign not in ESCAPES:
                raise BadPlain(self._at)
            pieces.append(ESCAPES[sign])
            self._at += 1
        pieces.append(self._piece(quote))
        self._at = quote
        self._sign()
        self._at += 1
        return "".join(pieces)

    def _place_of_quote(self):
        """The place of the next double quote, or the length of the text."""
        place = self._text.find("\"", self._at)
        return len(self._text) if place == -1 else place

    def _piece(self, end):
        """The signs up to this end, none of which needs a sign ahead of it."""
        piece = self._text[self._at:end]
        if not consists_of(piece, SIGNS) or "\n" in piece:
            for at, sign in enumerate(piece):
                if sign == "\n" or sign not in SIGNS:
                    raise BadPlain(self._at + at)
        return piece
