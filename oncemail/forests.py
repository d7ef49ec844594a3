"""Sets of rows that change, and their threads (th8)."""

from oncemail.errors import BadText
from oncemail.threads import forest
from oncemail.ties import Ties


class Forest:
    """A set of rows; no rows at first."""

    def __init__(self):
        self._rows = {}
        self._ties = None

    def put(self, uid, word, references):
        """Puts a row with this uid, id and references."""
        if uid in self._rows:
            raise BadText("there")
        self._rows[uid] = (uid, word, tuple(references))
        self._ties = None

    def take(self, uid):
        """Takes the row with this uid."""
        if uid not in self._rows:
            raise BadText("none")
        del self._rows[uid]
        self._ties = None

    def rows(self):
        """The rows, by uid."""
        return tuple([self._rows[uid] for uid in sorted(self._rows)])

    def trees(self):
        """The shown nodes (depth, name, uids) of the rows."""
        return forest(self.rows())

    def names(self, uid):
        """The names of the thread of the row with this uid, ascending."""
        row = self._row_with(uid)
        return self._tied().names(row)

    def path(self, uid):
        """The names from the one without a parent down to the row with this uid."""
        row = self._row_with(uid)
        return self._tied().path(row)

    def below(self, uid):
        """The uids of the rows below the row with this uid, ascending."""
        row = self._row_with(uid)
        return self._tied().below(row)

    def mates(self, word):
        """The uids of the rows that have this word among their names, ascending."""
        return self._tied().mates(word)

    def branch(self):
        """A new Forest with the same rows."""
        other = Forest()
        other._rows = dict(self._rows)
        other._ties = self._ties
        return other

    def _row_with(self, uid):
        """The row with this uid."""
        if uid not in self._rows:
            raise BadText("none")
        return self._rows[uid]

    def _tied(self):
        """The ties of the rows, kept until a row is put or taken."""
        if self._ties is None:
            self._ties = Ties(self.rows())
        return self._ties
