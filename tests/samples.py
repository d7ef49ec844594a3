"""Letters for the tests, and letters by chance."""

from oncemail.codings import write_coding

PLAIN = ("letter", (("From", "Ann <ann@oak>"), ("Subject", "two lamps")), ("lines", ()))
LINES = ("letter", (("A", ""), ("X-Long-Name", "x  y")), ("lines", ("", "one two", " three ", "--b0")))
CODED = ("letter", (("Coding", "six"), ("To", "bo@elm")), ("lines", ("2l9A", "", "2l", "9A")))
PARTS = ("letter", (("From", "ann@oak"),), ("parts", (LINES, CODED, PLAIN)))
DEEP = ("letter", (("A", "b"),), ("parts", (PLAIN, ("letter", (("C", ""),), ("parts", (PARTS,))))))
SIGNS = "\n" + "".join(chr(code) for code in range(32, 127) if code != 37)


def lined(*lines):
    return ("letter", (("A", "b"),), ("lines", lines))


def headed(*headers):
    return ("letter", headers, ("lines", ()))


def parted(*parts):
    return ("letter", (("A", "b"),), ("parts", parts))


def deep(depth, inner=PLAIN):
    """The letter within so many others."""
    for _ in range(depth):
        inner = parted(inner)
    return inner


def sized(size):
    """A letter with lines, of this size, at least 4."""
    many, rest = divmod(size - 4, 501)
    lines = ["x" * 500] * many
    if rest > 0:
        lines.append("x" * (rest - 1))
    return ("letter", (("A", ""),), ("lines", tuple(lines)))


WORDS = ("ann@oak", "Bo <bo@elm>", "x", "two", "lamps", "Re:", "a1", "--b0", "--b1--", "six", ",", "m1", "<", "7z",
         "a" * 30, "b" * 77, "c" * 78, "d" * 79, "e" * 200)
NAMES = ("From", "To", "Cc", "Id", "Re", "Subject", "Coding", "A", "X-Ray", "Very-Long-Name-Here")


def any_text(chance):
    """A text of a header."""
    many = chance.choice((0, 0, 1, 1, 2, 3, 5, 12, 40))
    text = "".join(chance.choice(WORDS) + " " * chance.choice((1, 1, 1, 1, 2, 3)) for _ in range(many))
    return text[:chance.choice((20, 100, 478))].strip(" ")


def any_line(chance):
    kind = chance.randrange(8)
    if kind == 0:
        return ""
    if kind < 4:
        return chance.choice(("--b0", "--b1", "--b0--", "--b2--", "--b1--", " ", "A: b", "--bc", "--b2"))
    return " ".join(chance.choice(WORDS) for _ in range(chance.randrange(1, 4)))[:500]


def any_letter(chance, depth=4):
    headers = tuple((chance.choice(NAMES), any_text(chance)) for _ in range(chance.choice((1, 1, 2, 3, 6))))
    if depth > 0 and chance.random() < 0.5:
        parts = tuple(any_letter(chance, depth - 1) for _ in range(chance.choice((1, 1, 2, 3))))
        return ("letter", headers, ("parts", parts))
    if [text for name, text in headers if name == "Coding"][:1] == ["six"] or chance.random() < 0.2:
        text = "".join(chance.choice(SIGNS) for _ in range(chance.randrange(0, 90)))
        if "Coding" not in dict(headers):
            headers = headers + (("Coding", "six"),)
        return ("letter", headers, ("lines", write_coding(text)))
    lines = tuple(any_line(chance) for _ in range(chance.choice((0, 1, 2, 4))))
    return ("letter", headers, ("lines", lines))
