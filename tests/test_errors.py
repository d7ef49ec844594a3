"""The errors of oncemail/errors.py."""

import unittest

from oncemail import errors

ATTRIBUTES = {
    "BadLetter": ("line", "reason"),
    "BadQuery": ("place", "reason"),
    "BadFilter": ("line", "reason"),
    "BadText": ("reason",),
    "BadPlain": ("place",),
    "BadHouse": ("reason",),
    "BadLine": ("reason",),
    "BadTurn": (),
    "BadDeed": ("reason",),
}
VALUES = {"line": 7, "place": 3, "reason": "bad thing"}


def made(name):
    arguments = [VALUES[word] for word in ATTRIBUTES[name]]
    return getattr(errors, name)(*arguments)


class Errors(unittest.TestCase):
    def test_each_error_has_its_attributes_when_it_is_made(self):
        for name, words in ATTRIBUTES.items():
            for word in words:
                with self.subTest(name=name, word=word):
                    self.assertEqual(getattr(made(name), word), VALUES[word])

    def test_attributes_are_those_of_the_object(self):
        one = errors.BadLetter(1, "long line")
        other = errors.BadLetter(2, "no header")
        self.assertEqual((one.line, one.reason), (1, "long line"))
        self.assertEqual((other.line, other.reason), (2, "no header"))

    def test_the_base_class_is_a_value_error(self):
        self.assertTrue(issubclass(errors.MailError, ValueError))

    def test_each_error_stands_under_the_base_class(self):
        for name in ATTRIBUTES:
            with self.subTest(name=name):
                self.assertTrue(issubclass(getattr(errors, name), errors.MailError))
                with self.assertRaises(errors.MailError):
                    raise made(name)
                with self.assertRaises(ValueError):
                    raise made(name)

    def test_no_error_is_a_subclass_of_another(self):
        for name in ATTRIBUTES:
            for other in ATTRIBUTES:
                if name != other:
                    with self.subTest(name=name, other=other):
                        self.assertFalse(issubclass(getattr(errors, name), getattr(errors, other)))

    def test_errors_have_a_message(self):
        for name in ATTRIBUTES:
            with self.subTest(name=name):
                self.assertIsInstance(str(made(name)), str)


if __name__ == "__main__":
    unittest.main()
