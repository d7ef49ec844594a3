"""Mail houses, each made from a journal text alone (h1 to h12)."""

from oncemail.addresses import bare_address
from oncemail.device_lines import DeviceLine
from oncemail.errors import BadHouse, BadLine, BadTurn
from oncemail.house_lines import HouseLine, is_due
from oncemail.journal import journal_line, read_journal
from oncemail.ledger import Ledger, ledger_of
from oncemail.names import is_house, is_name
from oncemail.scribe import Scribe
from oncemail.sending import fates_of
from oncemail.signs import are_ascending, is_word

MOST_USERS = 20
MOST_GROUPS = 20
MOST_MEMBERS = 30
MOST_OTHERS = 4
MOST_TURN = 10000
MARK_SIGNS = 20


def first_line(name, users, groups, houses):
    """The journal text of a new house."""
    if not is_house(name):
        raise BadHouse("name")
    if len(users) == 0 or len(users) > MOST_USERS or not are_names(users):
        raise BadHouse("users")
    if len(groups) > MOST_GROUPS or not are_groups(groups, users):
        raise BadHouse("groups")
    if len(houses) > MOST_OTHERS or name in houses or not are_houses(houses):
        raise BadHouse("houses")
    return journal_line(0, ("house", name, users, groups, houses))


def are_names(row):
    """Whether the things of a tuple are names, unlike and ascending."""
    return all([is_name(thing) for thing in row]) and are_ascending(row)


def are_houses(row):
    """Whether the things of a tuple are names of houses, unlike and ascending."""
    return all([is_house(thing) for thing in row]) and are_ascending(row)


def are_groups(groups, users):
    """Whether pairs are groups of a house with these users."""
    names = tuple([pair[0] for pair in groups])
    if not are_names(names) or any([name in users for name in names]):
        return False
    return all([are_members(pair[1]) for pair in groups])


def are_members(members):
    """Whether texts are the members of a group."""
    if len(members) > MOST_MEMBERS or len(set(members)) != len(members):
        return False
    return all([bare_address(member) is not None for member in members])


def house_of(text):
    """The house of a journal, and how much of the text was read."""
    entries, length = read_journal(text)
    if len(entries) == 0:
        raise BadHouse("journal")
    kind, *parts = entries[0]
    ledger = Ledger(*parts) if kind == "house" else ledger_of(parts[0])
    for entry in entries[1:]:
        ledger.apply(entry)
    return House(ledger, len(entries)), length


class House:
    """A house with its open lines; its journal has so many lines."""

    def __init__(self, ledger, count):
        self._ledger = ledger
        self._scribe = Scribe(ledger, count)
        # The open lines by their marks, in the order in which they were opened.
        self._lines = {}

    def attach(self, mark, who):
        """Opens a line to a house, or to a device if who is empty."""
        if not is_word(mark) or len(mark) > MARK_SIGNS or mark in self._lines:
            raise BadLine("mark")
        if who == "":
            self._lines[mark] = DeviceLine(self._scribe)
            return
        if who not in self._ledger.posts or who in [line.house for line in self._lines.values()]:
            raise BadLine("who")
        self._lines[mark] = HouseLine(who, self._scribe)

    def detach(self, mark):
        """Closes a line."""
        if mark not in self._lines:
            raise BadLine("mark")
        del self._lines[mark]

    def hear(self, mark, text):
        """Hears signs on a line."""
        if mark not in self._lines:
            raise BadLine("mark")
        self._lines[mark].hear(text)

    def work(self, turn):
        """Does a turn; the text that goes behind the journal."""
        if not 0 <= turn <= MOST_TURN or turn <= self._scribe.turn:
            raise BadTurn("turn")
        self._scribe.begin(turn)
        lines = list(self._lines.values())
        for line in lines:
            line.work()
        self._give_up(turn)
        for line in lines:
            if line.house != "":
                line.offer()
        for line in lines:
            if line.house == "":
                line.tell_news()
        return self._scribe.text()

    def _give_up(self, turn):
        """Ends the letters that have waited long without being offered."""
        for house in sorted(self._ledger.posts):
            post = self._ledger.posts[house]
            for number in post.numbers():
                held = post.waiting[number]
                if not held.offered and is_due(held, turn):
                    self._scribe.write("up", house, number)

    def say(self):
        """What is to be said: pairs of the marks of lines and texts."""
        pairs = [(mark, line.say()) for mark, line in self._lines.items()]
        return tuple([pair for pair in pairs if pair[1] != ""])

    def short(self):
        """The short text."""
        return journal_line(0, ("short", self._ledger.state()))

    def name(self):
        """The name of the house."""
        return self._ledger.name

    def waiting(self):
        """The entries that wait: (house, number, turn, offered, wanted back, entry)."""
        found = []
        for house in sorted(self._ledger.posts):
            for row in self._ledger.posts[house].rows():
                found.append((house, *row))
        return tuple(found)

    def store(self):
        """A branch of the store."""
        return self._ledger.store.branch()

    def fates(self, user):
        """What became of the letters that a user has sent."""
        return fates_of(self._ledger, user)
