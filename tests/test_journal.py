"""j2 to j4: the lines of journals, their entries, and how they are read."""

import random
import unittest

from oncemail.journal import journal_line, read_journal
from oncemail.plain import show_plain

HOUSE = ("house", "oak", ("ann", "bo"), (("all", ("ann@oak",)),), ("elm",))
THING = ("notice", ("name", "elm", "cy", "pad", 1, 2), "cy@elm", "bo@oak", "full")
ENTRIES = (
    HOUSE,
    ("deed", 3, "ann", "pad", 1, 1, ("make", "work")),
    ("met", 4, "ann", "pad", 2, 0),
    ("came", 5, "elm", 0, THING),
    ("offer", 5, "elm", 7),
    ("gone", 6, "elm", 7),
    ("up", 106, "elm", 8),
    ("low", 107, "elm", 9),
)


def told_sum(n, text):
    total = n
    for at in range(len(text)):
        total += ord(text[at]) * (at + 1)
    return total % 99991


def line(n, text):
    return f"{n} {told_sum(n, text)} {text}\n"


def journal(*entries):
    return "".join(journal_line(n, entry) for n, entry in enumerate(entries))


class Lines(unittest.TestCase):
    def test_each_kind(self):
        for n, entry in enumerate(ENTRIES + (("short", ("a", "b\n\"c\\")),)):
            self.assertEqual(journal_line(n, entry), line(n, show_plain(entry)))

    def test_an_example(self):
        # ("low" 1 "e" 2): places from 1, signs by ord.
        text = '("low" 1 "e" 2)'
        self.assertEqual(journal_line(12, ("low", 1, "e", 2)), f"12 {told_sum(12, text)} {text}\n")
        self.assertEqual(journal_line(0, ("short", ())), "0 " + str(sum(
            ord(sign) * place for sign, place in zip('("short" ())', range(1, 99)))) + ' ("short" ())\n')

    def test_the_remainder(self):
        entry = ("short", "~" * 3000)
        number = int(journal_line(0, entry).split(" ")[1])
        self.assertLess(number, 99991)
        self.assertEqual(number, told_sum(0, show_plain(entry)))
        big = 10 ** 12
        self.assertEqual(journal_line(big, entry).split(" ")[:2], [str(big), str(told_sum(big, show_plain(entry)))])


class Reading(unittest.TestCase):
    def setUp(self):
        self.text = journal(*ENTRIES)
        self.ends = [0]
        for piece in self.text.split("\n")[:-1]:
            self.ends.append(self.ends[-1] + len(piece) + 1)

    def check(self, text, many):
        """The first so many lines of the text are read."""
        entries, length = read_journal(text)
        self.assertEqual(entries, ENTRIES[:many])
        self.assertEqual(length, self.ends[many])

    def test_whole(self):
        self.check(self.text, len(ENTRIES))
        self.assertEqual(read_journal(""), ((), 0))

    def test_cut_at_each_sign(self):
        for end in range(len(self.text)):
            whole = max(n for n, length in enumerate(self.ends) if length <= end)
            self.check(self.text[:end], whole)

    def test_one_sign_changed(self):
        for at in range(len(self.text)):
            line_at = max(n for n, length in enumerate(self.ends) if length <= at)
            for more in ("1", "x", " ", "\n", "%", "0"):
                if self.text[at] == more:
                    continue
                changed = self.text[:at] + more + self.text[at + 1:]
                self.check(changed, line_at)
            self.check(self.text[:at] + self.text[at + 1:], line_at)
            for more in ("0", " ", "\n", "a"):
                if more != self.text[at] or more != "\n":
                    changed = self.text[:at] + more + self.text[at:]
                    self.check(changed, line_at)

    def test_lines_twice_left_out_or_exchanged(self):
        lines = [piece + "\n" for piece in self.text.split("\n")[:-1]]
        for at in range(len(lines)):
            self.check("".join(lines[:at + 1] + lines[at:]), at + 1)
            if at + 1 < len(lines):
                self.check("".join(lines[:at] + lines[at + 1:]), at)
                self.check("".join(lines[:at] + [lines[at + 1], lines[at]] + lines[at + 2:]), at)

    def test_numbers_written_otherwise(self):
        first = journal_line(0, HOUSE)
        number, told, plain = first[:-1].split(" ", 2)
        for text in (f"00 {told} {plain}\n", f"-0 {told} {plain}\n", f"+0 {told} {plain}\n", f"0 0{told} {plain}\n",
                     f"0 +{told} {plain}\n", f"0  {told} {plain}\n", f" 0 {told} {plain}\n", f"0 {told}  {plain}\n",
                     f"0 {told} {plain} \n", f"0 {int(told) + 99991} {plain}\n", f"0 {told}\n", "0\n", "\n",
                     f"\u0660 {told} {plain}\n", f"0 {told} {plain}\r\n", f" {told} {plain}\n", f"0  {plain}\n"):
            self.assertEqual(read_journal(text), ((), 0), text)
        # A sum of more than is right, and plain text that is written otherwise.
        for plain in ('("low" 01 "e" 2)', '("low"  1 "e" 2)', '("low" 1 "e" 2) ', '("low" -0 "e" 2)', "x", ""):
            self.assertEqual(read_journal(first + line(1, plain)), ((HOUSE,), len(first)), plain)

    def test_a_second_house(self):
        first = journal_line(0, HOUSE)
        for again in (HOUSE, ("short", ("x",))):
            for begin in (HOUSE, ("short", ("x",))):
                text = journal(begin, again)
                self.assertEqual(read_journal(text), ((begin,), len(journal_line(0, begin))))
        for entry in ENTRIES[1:]:
            self.assertEqual(read_journal(journal_line(0, entry)), ((), 0))
        self.assertEqual(read_journal(journal_line(1, HOUSE)), ((), 0))
        self.assertEqual(read_journal(first + journal_line(2, ENTRIES[1])), ((HOUSE,), len(first)))

    def test_forms(self):
        begin = journal_line(0, HOUSE)
        wrong = (-1, True, None, "3", (), 1.5)
        texts = (1, None, True, ())
        rows = ("a", 1, None, False)
        parts = {"deed": "ctt1cr", "met": "ctt1c", "came": "ctcr", "offer": "ctc", "gone": "ctc", "up": "ctc",
                 "low": "ctc"}
        for entry in ENTRIES[1:]:
            self.assertEqual(read_journal(begin + journal_line(1, entry))[0], (HOUSE, entry))
            for bad in (entry[:-1], entry + (0,), ("x",) + entry[1:], (1,) + entry[1:], ("house",) + entry[1:]):
                self.assertEqual(read_journal(begin + journal_line(1, bad))[0], (HOUSE,))
            for place, kind in enumerate(parts[entry[0]], 1):
                others = {"c": wrong, "1": wrong + (0,), "t": texts, "r": rows}[kind]
                for other in others:
                    if other == 1.5:
                        continue
                    bad = entry[:place] + (other,) + entry[place + 1:]
                    self.assertEqual(read_journal(begin + journal_line(1, bad))[0], (HOUSE,), bad)
        for bad in (5, "x", (), None, ((),), (("deed",),), "deed"):
            self.assertEqual(read_journal(begin + journal_line(1, bad))[0], (HOUSE,))
            self.assertEqual(read_journal(journal_line(0, bad)), ((), 0))

    def test_least_numbers_and_any_values(self):
        for entry in (("deed", 0, "", "", 1, 0, ()), ("met", 0, "", "", 1, 0), ("came", 0, "", 0, ()),
                      ("offer", 0, "", 0), ("low", 10 ** 30, "x y", 10 ** 30)):
            self.assertEqual(read_journal(journal(HOUSE, entry))[0], (HOUSE, entry))
        for first in (("house", None, 1, "x", ()), ("short", None), ("short", -1), ("house", (), (), (), True)):
            self.assertEqual(read_journal(journal_line(0, first)), ((first,), len(journal_line(0, first))))
        for bad in (("house", 1, 2, 3), ("house", 1, 2, 3, 4, 5), ("short",), ("short", 1, 2)):
            self.assertEqual(read_journal(journal_line(0, bad)), ((), 0))

    def test_other_signs_behind(self):
        for more in ("x", "\n", "8", "8 ", "\u00e9\n", "\x00", "%", self.text, "8 1 ()\n", " \n"):
            self.check(self.text + more, len(ENTRIES))

    def test_any_signs_are_not_refused(self):
        chance = random.Random(3)
        signs = "0123456789 ()\"\\n\n%\t\r\x0b\u2028\u00e9TFN-abc"
        for _ in range(500):
            text = "".join(chance.choice(signs) for _ in range(chance.randrange(0, 40)))
            self.assertEqual(read_journal(text), ((), 0))
            self.check(self.text + text, len(ENTRIES))


if __name__ == "__main__":
    unittest.main()
