"""The coding six: texts as lines of digits (l2)."""

from oncemail.errors import BadLetter
from oncemail.signs import SIGNS, consists_of

CODE_DIGITS = "0123456789abcdefghijklmnopqrstuvwxyzABCDEFGHIJKLMNOPQRSTUVWXYZ+-"
LINE_DIGITS = 76


def write_coding(text):
    """The lines of digits that code a text."""
    row = "".join([coded_group(text[at:at + 3]) for at in range(0, len(text), 3)])
    return tuple([row[at:at + LINE_DIGITS] for at in range(0, len(row), LINE_DIGITS)])


def coded_group(signs):
    """The digits of a group of signs: one more than these."""
    number = 0
    for sign in signs:
        number = number * 95 + SIGNS.index(sign)
    digits = ""
    for _ in range(len(signs) + 1):
        number, digit = divmod(number, 64)
        digits = CODE_DIGITS[digit] + digits
    return digits


def read_coding(lines):
    """The text that lines of digits code."""
    line = line_of_fault(lines)
    if line > 0:
        raise BadLetter(line, "bad coding")
    row = "".join(lines)
    return "".join([decoded_group(row[at:at + 4]) for at in range(0, len(row), 4)])


def decoded_group(digits):
    """The signs of a right group of digits: one less than these."""
    number = number_of(digits)
    signs = ""
    for _ in range(len(digits) - 1):
        number, sign = divmod(number, 95)
        signs = SIGNS[sign] + signs
    return signs


def number_of(digits):
    """The integer of a group of digits."""
    number = 0
    for digit in digits:
        number = number * 64 + CODE_DIGITS.index(digit)
    return number


def is_right_group(digits):
    """Whether digits are a group that signs can have."""
    bounds = (0, 0, 95, 9025, 857375)
    return number_of(digits) < bounds[len(digits)]


def line_of_fault(lines):
    """The number of the line with the first fault, from 1; 0 if the coding is right."""
    for at, line in enumerate(lines):
        if not consists_of(line, CODE_DIGITS):
            return at + 1
    row = "".join(lines)
    for at in range(0, len(row), 4):
        group = row[at:at + 4]
        if not is_right_group(group):
            return line_of_digit(lines, at + len(group) - 1)
    return 0


def line_of_digit(lines, place):
    """The number of the line, from 1, that has the digit at this place of the row."""
    behind = 0
    for at, line in enumerate(lines):
        behind = behind + len(line)
        if place < behind:
            return at + 1
    return 0
