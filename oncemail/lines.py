"""What all open lines of a house have in common (h3, k7)."""

from oncemail.talk import Listener


class Line:
    """An open line; house is the other end, empty for a device."""

    def __init__(self, house, most, scribe):
        self.house = house
        self._scribe = scribe
        self._ledger = scribe.ledger
        self._listener = Listener(most)
        # The commands that were heard and not done yet.
        self._heard = []
        self._said = []
        # Whether nothing more is heard and said.
        self._ended = False

    def hear(self, text):
        """Hears signs."""
        if not self._ended:
            self._heard.extend(list(self._listener.hear(text)))

    def say(self):
        """What is to be said; it is forgotten by that."""
        text = "".join(self._said)
        self._said = []
        return text

    def work(self):
        """Does the commands that are whole; a fault ends the line behind what was due ahead of it."""
        faulty = False
        for words, literal in self._heard:
            if not self._ended and not faulty:
                faulty = not self._does(words, literal)
        self._heard = []
        if not self._ended and (faulty or self._listener.faulty()):
            self._said.append("bye\n")
            self._ended = True

    def _does(self, words, literal):
        """Whether a command is none that is a fault; it is done then."""
        return False
