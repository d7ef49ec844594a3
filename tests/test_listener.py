"""k1, k2: commands, literals and faults."""

import random
import unittest

from oncemail.talk import Listener, say

MOST = 20000


def heard(*texts, most=MOST):
    listener = Listener(most)
    commands = []
    for text in texts:
        found = listener.hear(text)
        assert isinstance(found, tuple)
        commands.extend(found)
    return tuple(commands), listener.faulty()


def parsed(text, most):
    """The commands and whether there is a fault, by k1 and k2 word for word."""
    commands = []
    while text != "":
        line, feed, rest = text.partition("\n")
        if len(line) > 2000:
            return commands, True
        if feed == "":
            return commands, False
        words = line.split(" ")
        if line == "" or line != " ".join(line.split()) or "" in words:
            return commands, True
        last = words[-1]
        if not last.startswith("{"):
            commands.append((tuple(words), None))
            text = rest
            continue
        inner = last[1:-1]
        if last[-1:] != "}" or not inner.isdigit() or str(int(inner)) != inner or len(inner) > 5 or int(inner) > most:
            return commands, True
        many = int(inner)
        if len(rest) <= many:
            return commands, False
        if rest[many] != "\n":
            return commands, True
        commands.append((tuple(words[:-1]), rest[:many]))
        text = rest[many + 1:]
    return commands, False


class Commands(unittest.TestCase):
    def test_one_portion(self):
        text = say(("hello", "ann", "pad", "1", "0"), None) + say(("do", "1", "put", "0", "-"), "A: b\n\n") + "bye\n"
        self.assertEqual(text, "hello ann pad 1 0\ndo 1 put 0 - {6}\nA: b\n\n\nbye\n")
        self.assertEqual(heard(text), (((("hello", "ann", "pad", "1", "0"), None),
                                        (("do", "1", "put", "0", "-"), "A: b\n\n"), (("bye",), None)), False))

    def test_cut_at_every_sign(self):
        text = "a\nb c {3}\n\n{}\nd {0}\n\ne {2}\nbye\n"
        text = text.replace("{2}\nbye", "{2}\nby\ne")
        wanted = heard(text)
        self.assertEqual(len(wanted[0]), 5)
        for at in range(len(text) + 1):
            for end in range(at, len(text) + 1):
                self.assertEqual(heard(text[:at], text[at:end], text[end:]), wanted)
        self.assertEqual(heard(*text), wanted)
        self.assertEqual(heard("", text, ""), wanted)

    def test_when_a_command_is_there(self):
        listener = Listener(MOST)
        for sign in "ab c {2}\nx\n":
            self.assertEqual(listener.hear(sign), ())
        self.assertEqual(listener.hear("\n"), ((("ab", "c"), "x\n"),))
        self.assertEqual(listener.hear("z"), ())
        self.assertEqual(listener.hear("\ny\nv"), ((("z",), None), (("y",), None)))
        self.assertFalse(listener.faulty())

    def test_literals(self):
        for literal in ("", "\n", "\n\n\n", "bye\nhello {5}\n", "{1}", " ", "}{", "do 1\n{99}"):
            text = say(("a", "b"), literal) + "c\n"
            self.assertEqual(text, f"a b {{{len(literal)}}}\n{literal}\nc\n")
            wanted = (((("a", "b"), literal), (("c",), None)), False)
            self.assertEqual(heard(text), wanted)
            self.assertEqual(heard(*text), wanted)
        self.assertEqual(heard("{1}\nx\n"), ((((), "x"),), False))
        self.assertEqual(say((), "x"), "{1}\nx\n")

    def test_words_that_look_like_literals(self):
        self.assertEqual(heard("a {3} b\n{3} {x b\n}\n"), (((("a", "{3}", "b"), None), (("{3}", "{x", "b"), None),
                                                           (("}",), None)), False))
        self.assertEqual(heard("a b{3}\n"), (((("a", "b{3}"), None),), False))

    def test_greatest_literals(self):
        for most in (0, 5, 20000, 30000):
            literal = "x" * most
            self.assertEqual(heard(say(("a",), literal), most=most), (((("a",), literal),), False))
            self.assertEqual(heard(say(("a",), literal + "x"), most=most), ((), True))
            self.assertEqual(heard("a {" + str(most + 1) + "}", most=most), ((), False))


class Faults(unittest.TestCase):
    def test_each_fault_of_a_line(self):
        for line in ("", " ", " a", "a ", "a  b", "  ", "a {", "a {}", "a {x}", "a {1", "a {01}", "a {00}", "a {-1}",
                     "a {+1}", "a {1}}", "a {{1}", "a {1}x", "a {20001}", "a {99999}", "a {000001}", "a {123456}",
                     "{", "{}", "{x", "a {1} ", "a {\u0661}", "a {1 }"):
            if line == "a {1 }":
                self.assertFalse(heard(line + "\n")[1])
                continue
            self.assertEqual(heard("ok\n" + line), (((("ok",), None),), False), line)
            self.assertEqual(heard("ok\n" + line + "\n"), (((("ok",), None),), True), line)
            self.assertEqual(heard("ok\n" + line + "\nbye\nbye\n", "x\n"), (((("ok",), None),), True), line)
            self.assertEqual(heard(*("ok\n" + line + "\nbye\n")), (((("ok",), None),), True), line)

    def test_a_sign_behind_a_literal(self):
        self.assertEqual(heard("a {2}\nxy"), ((), False))
        self.assertEqual(heard("a {2}\nxyz"), ((), True))
        self.assertEqual(heard("a {2}\nxy", "z"), ((), True))
        self.assertEqual(heard("a {2}\nxy", " \nb\n"), ((), True))
        self.assertEqual(heard("b\na {0}\nx\n"), (((("b",), None),), True))
        self.assertEqual(heard("a {0}\n", "\n", "b\n"), (((("a",), ""), (("b",), None)), False))

    def test_lines_of_2000_signs(self):
        right = "a " + "b" * 1998
        self.assertEqual(heard(right + "\n"), (((("a", "b" * 1998), None),), False))
        self.assertEqual(heard(*(right + "\n")), (((("a", "b" * 1998), None),), False))
        self.assertEqual(heard(right), ((), False))
        self.assertEqual(heard(right, "b"), ((), True))
        self.assertEqual(heard(right + "b\n"), ((), True))
        self.assertEqual(heard(right, "\n", right, "bb"), (((("a", "b" * 1998), None),), True))
        self.assertEqual(heard("x" * 2001), ((), True))
        self.assertEqual(heard("c\n" + "x" * 2000 + "\n"), (((("c",), None), (("x" * 2000,), None)), False))
        self.assertEqual(heard("c\n" + "x" * 2001), (((("c",), None),), True))
        # The literal does not count, its word does.
        self.assertEqual(heard("y" * 1994 + " {12}\n" + "z" * 12 + "\n")[1], False)
        self.assertEqual(heard("y" * 1996 + " {12}\n" + "z" * 12 + "\n"), ((), True))
        self.assertEqual(heard("a {3000}\n" + "z" * 3000 + "\n")[1], False)

    def test_a_fault_in_2001_signs_is_told_at_once(self):
        listener = Listener(MOST)
        for at in range(2000):
            self.assertEqual(listener.hear(" "), ())
            self.assertFalse(listener.faulty())
        listener.hear(" ")
        self.assertTrue(listener.faulty())

    def test_nothing_behind_a_fault(self):
        listener = Listener(MOST)
        self.assertEqual(listener.hear("a\n\nb\n"), ((("a",), None),))
        for text in ("", "c\n", "\n", "d {1}\nx\n"):
            self.assertEqual(listener.hear(text), ())
            self.assertTrue(listener.faulty())

    def test_by_chance(self):
        chance = random.Random(4)
        pieces = ("a", "b c", " ", "\n", "\n", "{0}", "{1}", "{3}", " {2}\n", "x", "{", "}", "xy\n", "a\n", "  ", "{9}")
        faults = 0
        for _ in range(4000):
            text = "".join(chance.choice(pieces) for _ in range(chance.randrange(0, 14)))
            commands, fault = parsed(text, 5)
            faults += fault
            cuts = sorted(chance.randrange(0, len(text) + 1) for _ in range(chance.randrange(0, 4)))
            portions = [text[low:high] for low, high in zip([0] + cuts, cuts + [len(text)])]
            self.assertEqual(heard(*portions, most=5), (tuple(commands), fault), text)
        self.assertGreater(faults, 1000)


if __name__ == "__main__":
    unittest.main()
