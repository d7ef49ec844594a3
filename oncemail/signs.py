"""The signs of texts (c1), and the words and lines that are made of them."""

SMALL = "abcdefghijklmnopqrstuvwxyz"
DIGITS = "0123456789"
LETTERS = "abcdefghijklmnopqrstuvwxyzABCDEFGHIJKLMNOPQRSTUVWXYZ"

# Each sign stands at its number of the coding six (l2).
SIGNS = (
    "\n !\"#$&'()*+,-./0123456789:;<=>?@ABCDEFGHIJKLMNOPQRSTUVWXYZ"
    "[\\]^_`abcdefghijklmnopqrstuvwxyz{|}~"
)


def consists_of(text, signs):
    """Whether the text has no other signs than these."""
    # strip stops at the first sign from each end that is not among them.
    return text.strip(signs) == ""


def is_integer(thing):
    """Whether the thing is an integer; True and False are none."""
    return type(thing) is int


def is_natural(thing):
    """Whether the thing is an integer from 0."""
    return is_integer(thing) and thing >= 0


def is_text(thing):
    """Whether the thing is a text."""
    return type(thing) is str and consists_of(thing, SIGNS)


def is_line(thing):
    """Whether the thing is a text without line feeds."""
    return is_text(thing) and "\n" not in thing


def is_word(thing):
    """Whether the thing is a word: not empty, without blanks and line feeds."""
    return is_line(thing) and thing != "" and " " not in thing


def words_in(line):
    """The words of a line, in order."""
    return [word for word in line.split(" ") if word != ""]


def lines_in(text):
    """The lines of a text, in order (l5)."""
    lines = text.split("\n")
    if lines[-1] == "":
        lines.pop()
    return lines


def are_ascending(row):
    """Whether each thing of a tuple is greater than the one before it."""
    return all([low < high for low, high in zip(row, row[1:])])
