"""Houses for the tests, moved turn by turn with their journals kept beside them."""

from oncemail.house import first_line, house_of
from oncemail.journal import journal_line
from oncemail.letters import read_letter
from oncemail.plain import read_plain
from oncemail.talk import Listener, say

USERS = ("ann", "bo", "cy")


def long_mail(size, head="A: b"):
    """The text of a letter of this size, at least 30."""
    text = head + "\n\n"
    while len(text) < size:
        text += "x" * (min(500, size - len(text) - 1)) + "\n"
    return text


def mail(writer="ann@oak", subject="s", *lines):
    return f"From: {writer}\nSubject: {subject}\n\n" + "".join(line + "\n" for line in lines)


class Hall:
    def __init__(self, name="oak", users=USERS, groups=(), houses=("elm", "yew")):
        self.text = first_line(name, users, groups, houses)
        self.house = house_of(self.text)[0]
        self.now = 0
        self.new = ()
        self.count = 1

    def open(self, *marks, who=""):
        for mark in marks:
            self.house.attach(mark, who)

    def turn(self, turn=None, **said):
        """The texts that are said behind these texts, a dict; new has the entries of the turn."""
        self.now = self.now + 1 if turn is None else turn
        for mark, text in said.items():
            self.house.hear(mark, text)
        lines = self.house.work(self.now).split("\n")[:-1]
        self.new = tuple(read_plain(line.split(" ", 2)[2]) for line in lines)
        for line, new in zip(lines, self.new):
            assert line + "\n" == journal_line(self.count, new)
            self.count += 1
        self.text += "".join(line + "\n" for line in lines)
        told = self.house.say()
        assert self.house.say() == ()
        assert isinstance(told, tuple) and all(text != "" for _, text in told)
        return dict(told)

    def ask(self, mark, text):
        """What is said on this line, in lines, behind this text."""
        return self.turn(**{mark: text}).get(mark, "").split("\n")[:-1]

    def hello(self, mark, user, device="pad", life=1, heard=0):
        self.open(mark)
        return self.ask(mark, f"hello {user} {device} {life} {heard}\n")

    def do(self, mark, number, words, literal=None):
        """The one line with which a deed is answered."""
        return self.ask(mark, say(["do", str(number), *words.split()], literal))[0]

    def fill(self, mark, number, box, many=50):
        """Puts so many letters of 20,000 signs into a box, from this deed on."""
        text = "".join(say(("do", str(number + n), "put", str(box), "-"), long_mail(20000)) for n in range(many))
        answers = self.ask(mark, text)
        assert len(answers) == many and all(line.startswith("ok") for line in answers)

    def send(self, mark, number, addresses, text):
        return self.do(mark, number, f"send {addresses}", text)

    def again(self):
        """The house that is made anew of the journal; it is the same by its short text."""
        house, length = house_of(self.text)
        assert length == len(self.text)
        short = self.house.short()
        assert house.short() == short
        other, length = house_of(short)
        assert length == len(short)
        assert other.short() == short
        return house, other

    def letters(self, user, number):
        return [row[5] for row in self.house.store().records(user, number)]

    def subjects(self, user, number=0):
        return [dict(letter[1])["Subject"] for letter in self.letters(user, number)]

    def notices(self, user):
        """The causes that were told to a user, with the address told."""
        found = []
        for letter in self.letters(user, 1):
            headers = dict(letter[1])
            found.append((headers["From"], headers["Subject"].partition(": ")[2], letter[2][1][0]))
        return found


def commands(text):
    """The commands of a text that was said."""
    listener = Listener(30000)
    found = listener.hear(text)
    assert not listener.faulty()
    return found


def give(number, reader, text, teller="eve@elm", told=None, trail=(), name="elm eve pad 1 1"):
    words = ["give", str(number), *name.split(), teller, told or reader, reader, str(len(trail))]
    return say(words, "".join(address + "\n" for address in trail) + text)


def entry(reader, text, teller="eve@elm", told=None, trail=(), name=("name", "elm", "eve", "pad", 1, 1)):
    return ("letter", name, teller, told or reader, trail, reader, read_letter(text))
