"""Addresses and lists of addresses: l7, c2."""

import unittest

from oncemail.addresses import read_address, read_addresses, write_address, write_addresses
from oncemail.errors import BadText

ANN = ("at", "ann", "oak")
BO = ("at", "bo", "elm")
LONG = ("at", "a23456789012", "abcdefghijkl")

RIGHT = (
    ("ann@oak", ANN),
    ("  ann@oak", ANN),
    ("ann@oak   ", ANN),
    (" ann@oak ", ANN),
    ("<ann@oak>", ANN),
    (" <ann@oak> ", ANN),
    ("Ann <ann@oak>", ANN),
    ("Ann<ann@oak>", ANN),
    ("Ann   <ann@oak>", ANN),
    ("  Ann Lee  <ann@oak>  ", ANN),
    ("Ann. B. (x) \"y\" & 7 <ann@oak>", ANN),
    ("bo@elm <ann@oak>", ANN),
    ("@ <ann@oak>", ANN),
    ("Ann\nLee <ann@oak>", ANN),
    ("a@b", ("at", "a", "b")),
    ("a1@b", ("at", "a1", "b")),
    ("a23456789012@abcdefghijkl", LONG),
    ("L <a23456789012@abcdefghijkl>", LONG),
)

WRONG = (
    "", " ", "   ", "ann", "@", "ann@", "@oak", "oak@ann@", "@ann@oak", "ann@@oak", "ann@oak@elm", "ann@oak@",
    "<>", "<@>", "<ann>", "<ann@>", "<@oak>", "<ann@oak@elm>", "Ann <>", "Ann <ann>",
    "Ann@oak", "ANN@oak", "aNn@oak", "ann@Oak", "ann@OAK", "ann@oaK", "<Ann@oak>", "<ann@Oak>",
    "1ann@oak", "1@oak", "<1ann@oak>", "ann@oak1", "ann@1oak", "ann@o2k", "<ann@oak1>",
    "a234567890123@oak", "ann@abcdefghijklm", "<a234567890123@oak>", "<ann@abcdefghijklm>",
    "ann @oak", "ann@ oak", "an n@oak", "ann@o ak", "ann @ oak",
    "< ann@oak>", "<ann@oak >", "<ann @oak>", "<ann@ oak>", "< >", "<an n@oak>",
    "ann@oak>", "<ann@oak", "Ann <ann@oak", "Ann ann@oak>", "ann@oak <", "ann@oak <>", ">ann@oak<",
    "<ann@oak> x", "<ann@oak>x", "<ann@oak>>", "<<ann@oak>>", "<<ann@oak>", "x<y<ann@oak>", "x>y <ann@oak>",
    "> <ann@oak>", "< <ann@oak>", "<ann@oak> <bo@elm>", "<ann@oak><bo@elm>",
    "Lee, Ann <ann@oak>", ",<ann@oak>", "Ann, <ann@oak>", "ann@oak,", ",ann@oak", "ann@oak,bo@elm",
    "Ann ann@oak", "ann@oak Ann", "an-n@oak", "an.n@oak", "ann@oak.elm", "a_b@oak", "ann:oak",
    "ann@oak\n", "\nann@oak", "ann\n@oak", "ann@\noak", "<ann@oak\n>", "<\nann@oak>", "<ann@oak>\n", "\n",
    "<an\nn@oak>", " \n ann@oak", "an\nn@oak", "ann@o\nak",
)


class Addresses(unittest.TestCase):
    def test_right_ones(self):
        for text, address in RIGHT:
            with self.subTest(text=text):
                self.assertEqual(read_address(text), address)

    def test_names_of_each_length(self):
        for many in range(1, 13):
            user, house = "u" * many, "h" * (13 - many)
            for text in (f"{user}@{house}", f"<{user}@{house}>", f"U <{user}@{house}>"):
                with self.subTest(text=text):
                    self.assertEqual(read_address(text), ("at", user, house))

    def test_wrong_ones(self):
        for text in WRONG:
            with self.subTest(text=text):
                with self.assertRaises(BadText) as caught:
                    read_address(text)
                self.assertEqual(caught.exception.reason, "bad address")

    def test_what_is_written(self):
        for address, text in ((ANN, "ann@oak"), (BO, "bo@elm"), (LONG, "a23456789012@abcdefghijkl")):
            with self.subTest(text=text):
                self.assertEqual(write_address(address), text)
                self.assertEqual(read_address(text), address)


class Lists(unittest.TestCase):
    def test_right_ones(self):
        rows = (
            ("", ()), (" ", ()), ("    ", ()),
            ("ann@oak", (ANN,)), ("  ann@oak ", (ANN,)), ("Ann <ann@oak>", (ANN,)),
            ("ann@oak,bo@elm", (ANN, BO)), ("ann@oak, bo@elm", (ANN, BO)), (" ann@oak ,  bo@elm ", (ANN, BO)),
            ("Bo <bo@elm>,Ann<ann@oak>", (BO, ANN)), ("ann@oak,ann@oak", (ANN, ANN)),
            ("<bo@elm>, ann@oak, L <a23456789012@abcdefghijkl>", (BO, ANN, LONG)),
        )
        for text, addresses in rows:
            with self.subTest(text=text):
                self.assertEqual(read_addresses(text), addresses)

    def test_one_wrong_piece_and_the_whole_is_refused(self):
        for text in ("x", "xx", " x ", "ann", ",", " , ", ",,", "ann@oak,", ",ann@oak", "ann@oak, ", " ,ann@oak", "ann@oak,,bo@elm",
                     "ann@oak, ,bo@elm", "ann@oak,bo", "bo,ann@oak", "ann@oak,bo@elm,x", "ann@oak;bo@elm",
                     "ann@oak bo@elm", "Lee, Ann <ann@oak>", "\n", "ann@oak,\nbo@elm", "ann@oak\n", " \n ",
                     "ann@oak, Bo@elm", "x, ann@oak"):
            with self.subTest(text=text):
                with self.assertRaises(BadText) as caught:
                    read_addresses(text)
                self.assertEqual(caught.exception.reason, "bad address")

    def test_each_wrong_address_within_a_list(self):
        for text in WRONG:
            if "," not in text:
                with self.subTest(text=text):
                    with self.assertRaises(BadText) as caught:
                        read_addresses("ann@oak," + text + ",bo@elm")
                    self.assertEqual(caught.exception.reason, "bad address")

    def test_what_is_written(self):
        rows = (((), ""), ((ANN,), "ann@oak"), ((ANN, BO), "ann@oak, bo@elm"),
                ((BO, ANN, LONG), "bo@elm, ann@oak, a23456789012@abcdefghijkl"), ((BO, BO), "bo@elm, bo@elm"))
        for addresses, text in rows:
            with self.subTest(text=text):
                self.assertEqual(write_addresses(addresses), text)
                self.assertEqual(read_addresses(text), addresses)


if __name__ == "__main__":
    unittest.main()
