"""What is said on a line: commands, their literals and their words (k1 to k3)."""

from oncemail.names import are_uids
from oncemail.signs import DIGITS, consists_of

LINE_SIGNS = 2000
MOST_UIDS = 1000
MOST_NUMBER = 999999999
NUMBER_DIGITS = 9
LENGTH_DIGITS = 5


class Listener:
    """Hears the signs of one end of a line, and tells the commands that have become whole."""

    def __init__(self, most):
        self._most = most
        # What was heard and belongs to no whole command yet.
        self._text = ""
        # The words and the length of the literal that is waited for.
        self._words = None
        self._length = 0
        self._ended = False

    def hear(self, text):
        """The commands that have become whole by this text."""
        if self._ended:
            return ()
        self._text = self._text + text
        commands = []
        at = 0
        while not self._ended:
            end = self._end_of_literal(at) if self._words is not None else self._end_of_line(at)
            if end == -1:
                break
            self._read(self._text[at:end], commands)
            at = end + 1
        self._text = self._text[at:]
        return tuple(commands)

    def faulty(self):
        """Whether a fault was heard."""
        return self._ended

    def _end_of_line(self, at):
        """The place of the line feed of the line that begins here, or -1."""
        end = self._text.find("\n", at, at + LINE_SIGNS + 1)
        if end == -1 and len(self._text) - at > LINE_SIGNS:
            self._ended = True
        return end

    def _end_of_literal(self, at):
        """The place of the line feed behind the literal that begins here, or -1."""
        end = at + self._length
        if end >= len(self._text):
            return -1
        if self._text[end] != "\n":
            self._ended = True
            return -1
        return end

    def _read(self, text, commands):
        """Reads a line or a literal that has come whole."""
        if self._words is not None:
            commands.append((self._words, text))
            self._words = None
            return
        words = text.split(" ")
        if "" in words:
            self._ended = True
        elif not words[-1].startswith("{"):
            commands.append((tuple(words), None))
        else:
            length = length_in(words[-1])
            if length is None or length > self._most:
                self._ended = True
                return
            self._words = tuple(words[:-1])
            self._length = length


def length_in(word):
    """The length that a word announces for a literal, or None."""
    if not word.endswith("}") or len(word) > LENGTH_DIGITS + 2:
        return None
    return read_number(word[1:-1])


def say(words, literal):
    """The signs of a command."""
    if literal is None:
        return " ".join(words) + "\n"
    announced = "{" + str(len(literal)) + "}"
    return " ".join([*words, announced]) + "\n" + literal + "\n"


def read_number(word):
    """The number of a word, or None."""
    if not 1 <= len(word) <= NUMBER_DIGITS or not consists_of(word, DIGITS):
        return None
    if word[0] == "0" and word != "0":
        return None
    return int(word)


def read_box(word):
    """The number of a box or -k of a word, or None."""
    if not word.startswith("-"):
        return read_number(word)
    number = read_number(word[1:])
    return None if number is None or number == 0 else -number


def read_uids(word):
    """The uids of a word, or None."""
    if word == "-":
        return ()
    uids = []
    for piece in word.split(","):
        run = run_of(piece)
        if run is None or len(uids) + run[1] - run[0] >= MOST_UIDS:
            return None
        uids.extend(list(range(run[0], run[1] + 1)))
    row = tuple(uids)
    # There is one word for each tuple, so that this compares what else k3 asks.
    if not are_uids(row) or show_uids(row) != word:
        return None
    return row


def run_of(piece):
    """The first and the last number of a piece of a word of uids, or None."""
    first, colon, last = piece.partition(":")
    low = read_box(first)
    high = low if colon == "" else read_number(last)
    if low is None or high is None or low > high:
        return None
    return low, high


def show_uids(uids):
    """The word of a tuple of uids."""
    if len(uids) == 0:
        return "-"
    pieces = []
    for low, high in runs_of(uids):
        pieces.append(f"{low}" if low == high else f"{low}:{high}")
    return ",".join(pieces)


def runs_of(uids):
    """The first and last number of each run of uids; those below 0 stand alone."""
    runs = []
    for uid in uids:
        if runs and uid > 1 and runs[-1][1] == uid - 1:
            runs[-1] = (runs[-1][0], uid)
        else:
            runs.append((uid, uid))
    return runs


def read_flags(word):
    """The pieces of a word of flags, as they stand."""
    if word == "-":
        return ()
    return tuple(word.split(","))


def show_flags(flags):
    """The word of a tuple of flags."""
    return "-" if len(flags) == 0 else ",".join(flags)


def show_value(value):
    """The word of the value of an answer."""
    if value is None:
        return "-"
    if isinstance(value, int):
        return str(value)
    return show_uids(value)
