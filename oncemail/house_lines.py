"""The lines between houses (k6, h8)."""

from oncemail.answers import row
from oncemail.lines import Line
from oncemail.peers import command_of, say_entry

MOST_LITERAL = 30000
# How many turns an entry of a letter waits.
PATIENCE = 100


class HouseLine(Line):
    """A line to another house."""

    def __init__(self, house, scribe):
        super().__init__(house, MOST_LITERAL, scribe)
        self._post = scribe.ledger.posts[house]
        # The low that was said last, None until the line's first turn is done.
        self._low = None
        # The numbers of the entries that are said again in this turn.
        self._again = {}

    def _does(self, words, literal):
        """Whether a command is none that is a fault; it is done then."""
        command = command_of(words, literal, self._ledger.name)
        if command is None:
            return False
        self._obey(*command)
        return True

    def _obey(self, kind, number, thing):
        """Does a command."""
        if thing is not None:
            if not self._post.has_taken(number):
                self._scribe.write("came", self.house, number, thing)
            self._said.append(row("took", number))
        elif kind == "ask":
            self._said.append(row("had" if self._post.has_taken(number) else "not", number))
        elif kind == "low":
            if number > self._post.low:
                self._scribe.write("low", self.house, number)
        else:
            self._settle(kind, number)

    def _settle(self, kind, number):
        """Hears what became of an entry."""
        held = self._post.waiting.get(number, None)
        if held is None or not held.offered:
            return
        if kind != "not":
            self._scribe.write("gone", self.house, number)
        elif is_due(held, self._scribe.turn) or held.wanted:
            self._scribe.write("up", self.house, number)
        else:
            self._again[number] = True

    def offer(self):
        """Says which entries wait, and those that are to be said in this turn."""
        if self._ended:
            return
        least = self._post.least()
        is_first = self._low is None
        if is_first or least > self._low:
            self._low = least
            self._said.append(row("low", least))
        numbers = self._post.numbers()
        if is_first:
            for number in numbers:
                if self._post.waiting[number].offered:
                    self._said.append(row("ask", number))
        for number in numbers:
            held = self._post.waiting[number]
            if not held.offered:
                self._scribe.write("offer", self.house, number)
            elif number not in self._again:
                continue
            self._said.append(say_entry(number, held.entry))
        self._again = {}


def is_due(held, turn):
    """Whether an entry is one of a letter that has waited long enough."""
    return held.entry[0] == "letter" and turn - held.turn >= PATIENCE
