"""The coding six: l2, and its errors by l6."""

import random
import unittest

from oncemail.codings import read_coding, write_coding
from oncemail.errors import BadLetter

DIGITS = "0123456789abcdefghijklmnopqrstuvwxyzABCDEFGHIJKLMNOPQRSTUVWXYZ+-"
SIGNS = ["\n"] + [chr(code) for code in range(32, 127) if code != 37]
LONGEST = 20000


def digits_of(number, many):
    return "".join(DIGITS[number // 64 ** place % 64] for place in reversed(range(many)))


def coded(text):
    """The row of digits of a text, worked out group by group."""
    row = ""
    for at in range(0, len(text), 3):
        numbers = [SIGNS.index(sign) for sign in text[at:at + 3]]
        number = sum(n * 95 ** place for place, n in enumerate(reversed(numbers)))
        row += digits_of(number, len(numbers) + 1)
    return row


def any_text(chance, many):
    return "".join(chance.choice(SIGNS) for _ in range(many))


class Writing(unittest.TestCase):
    def test_by_hand(self):
        rows = (("", ()), ("cab", ("2l9A",)), ("\n", ("00",)), (" ", ("01",)), ("~", ("1u",)),
                ("\n\n", ("000",)), ("~~", ("2d0",)), ("\n\n\n", ("0000",)), ("~~~", ("3hku",)),
                ("$", ("05",)), ("&", ("06",)), ("cabc", ("2l9A13",)), ("cabcab", ("2l9A2l9A",)))
        for text, lines in rows:
            with self.subTest(text=text):
                self.assertEqual(write_coding(text), lines)
                self.assertEqual(read_coding(lines), text)

    def test_all_signs_by_themselves(self):
        for number, sign in enumerate(SIGNS):
            self.assertEqual(write_coding(sign), (digits_of(number, 2),))
            self.assertEqual(read_coding((digits_of(number, 2),)), sign)
        self.assertEqual(len(SIGNS), 95)

    def test_all_signs_at_each_place_of_a_group(self):
        for sign in SIGNS:
            for text in (sign + "a", "a" + sign, sign + "ab", "a" + sign + "b", "ab" + sign, "abc" + sign):
                self.assertEqual(write_coding(text), (coded(text),))
                self.assertEqual(read_coding((coded(text),)), text)

    def test_lines_of_76_digits(self):
        text = "".join(SIGNS)
        self.assertEqual([len(line) for line in write_coding(text[:57])], [76])
        self.assertEqual([len(line) for line in write_coding(text[:58])], [76, 2])
        self.assertEqual([len(line) for line in write_coding(text[:56])], [75])
        self.assertEqual([len(line) for line in write_coding(text[:60])], [76, 4])
        self.assertEqual([len(line) for line in write_coding((text + text)[:114])], [76, 76])
        self.assertEqual([len(line) for line in write_coding((text + text)[:115])], [76, 76, 2])
        for many in (57, 58, 95):
            self.assertEqual("".join(write_coding(text[:many])), coded(text[:many]))

    def test_texts_of_each_length(self):
        chance = random.Random(1)
        for many in list(range(130)) + [1000, 5000, LONGEST - 2, LONGEST - 1, LONGEST]:
            text = any_text(chance, many)
            lines = write_coding(text)
            self.assertIs(type(lines), tuple)
            self.assertEqual("".join(lines), coded(text))
            self.assertTrue(all(len(line) == 76 for line in lines[:-1]))
            self.assertTrue(all(1 <= len(line) <= 76 for line in lines))
            self.assertEqual(read_coding(lines), text)


class Reading(unittest.TestCase):
    def fails(self, lines, line):
        with self.subTest(lines=lines):
            with self.assertRaises(BadLetter) as caught:
                read_coding(lines)
            self.assertEqual((caught.exception.line, caught.exception.reason), (line, "bad coding"))

    def test_lines_of_any_lengths(self):
        for lines in (("2l9A",), ("2", "l", "9", "A"), ("", "2l9A"), ("2l9A", ""), ("2l", "", "", "9A"),
                      ("2l9", "A"), ("", "", "2", "l9A", "")):
            with self.subTest(lines=lines):
                self.assertEqual(read_coding(lines), "cab")
        for lines in ((), ("",), ("", "", "")):
            with self.subTest(lines=lines):
                self.assertEqual(read_coding(lines), "")

    def test_long_lines(self):
        text = any_text(random.Random(2), 3000)
        row = "".join(write_coding(text))
        self.assertEqual(read_coding((row,)), text)
        self.assertEqual(read_coding(tuple(row)), text)
        self.assertEqual(read_coding((row[:500], row[500:501], row[501:])), text)

    def test_groups_just_right_and_just_wrong(self):
        for many, bound in ((2, 95), (3, 9025), (4, 857375)):
            read_coding((digits_of(bound - 1, many),))
            self.fails((digits_of(bound, many),), 1)
            self.fails((digits_of(bound + 1, many),), 1)
            self.fails((digits_of(64 ** many - 1, many),), 1)
            self.fails(("2l9A" * 5 + digits_of(bound, many),), 1)
            self.assertEqual(read_coding((digits_of(bound - 1, many),)), "~" * (many - 1))
        self.fails((digits_of(857375, 4) + "2l9A",), 1)

    def test_all_groups_of_one_or_two_digits(self):
        for digit in DIGITS:
            self.fails((digit,), 1)
            self.fails(("2l9A" + digit,), 1)
            self.fails(("2l9A", digit), 2)
        for number in range(64 * 64):
            group = digits_of(number, 2)
            if number < 95:
                self.assertEqual(read_coding((group,)), SIGNS[number])
            else:
                self.fails((group,), 1)

    def test_signs_that_are_no_digits(self):
        for sign in SIGNS:
            if sign not in DIGITS and sign != "\n":
                self.fails((sign + "l9A",), 1)
                self.fails(("2l9" + sign,), 1)
                self.fails(("2l9A", "2" + sign + "9A"), 2)

    def test_the_line_of_the_last_digit_of_the_first_wrong_group(self):
        self.fails(("-", "-", "-", "-"), 4)
        self.fails(("--", "--"), 2)
        self.fails(("---", "-2l9A"), 2)
        self.fails(("----", "----"), 1)
        self.fails(("2l9A--", "--", "----"), 2)
        self.fails(("2l9A", "", "----"), 3)
        self.fails(("2l9A-", "", "", "-", "", "-", "-", ""), 7)
        self.fails(("2l9A", "3", ""), 2)
        self.fails(("", "3", "", ""), 2)
        self.fails(("2l9A2", "l9A1v"), 2)
        self.fails(("2l9A2", "l9A1", "v"), 3)
        self.fails(("2l9A", "1", "", "v", ""), 4)
        self.fails(("2l9A", "2d", "1"), 3)
        self.fails(("2l9A2l9A", "2l9A", "-----"), 3)
        self.fails(("2l9A2l9A", "2l9A", "2l9A-"), 3)

    def test_a_sign_that_is_no_digit_is_told_ahead_of_a_wrong_group(self):
        self.fails(("----", "2l9A", "2 9A"), 3)
        self.fails(("----", "2l9A", "!", "?"), 3)
        self.fails(("1", "", "", " "), 4)
        self.fails((" ", "----"), 1)
        self.fails(("2l9A", "a b", "c d"), 2)

    def test_what_is_handed_in_stays(self):
        lines = ("2l", "9A", "----")
        self.fails(lines, 3)
        self.assertEqual(lines, ("2l", "9A", "----"))


if __name__ == "__main__":
    unittest.main()
