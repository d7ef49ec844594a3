"""The journal lines that a house makes in a turn (h2, j3)."""

from oncemail.journal import journal_line


class Scribe:
    """Does entries and writes them; count is the number of lines of the journal."""

    def __init__(self, ledger, count):
        self.ledger = ledger
        # The turn of the last work, or of the greatest entry.
        self.turn = ledger.turn
        self._count = count
        self._lines = []

    def begin(self, turn):
        """Goes on to another turn."""
        self.turn = turn

    def write(self, kind, *parts):
        """Does the entry of this kind in this turn and writes it; its answer."""
        entry = (kind, self.turn, *parts)
        self._lines.append(journal_line(self._count, entry))
        self._count += 1
        return self.ledger.apply(entry)

    def text(self):
        """The lines that were written since this was asked last."""
        text = "".join(self._lines)
        self._lines = []
        return text
