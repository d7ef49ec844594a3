"""What a device keeps of its house: the list of boxes and copies of them (d1, d3)."""


class Copy:
    """A copy of a box: by uid the rows (change, flags, turn), and the letters that it has."""

    def __init__(self, change):
        self.change = change
        self.rows = {}
        self.letters = {}

    def records(self):
        """The records by uid; a letter that the copy does not have is None."""
        found = []
        for uid in sorted(self.rows):
            found.append(("kept", uid, *self.rows[uid], self.letters.get(uid, None)))
        return tuple(found)

    def drop(self, uid):
        """Loses a record, if it has it."""
        self.rows.pop(uid, None)
        self.letters.pop(uid, None)


class Copies:
    """The list that was heard last, and the copies of its boxes by their numbers."""

    def __init__(self):
        self._list = ()
        self._copies = {}

    def rows(self):
        """The list: rows (number, owner, name, letters)."""
        return self._list

    def readable(self):
        """The numbers of the boxes of the list with r, by number."""
        return [row[0] for row in self._list if "r" in row[3]]

    def copy_of(self, number):
        """The copy of a box, or None."""
        return self._copies.get(number, None)

    def change_of(self, number):
        """The change of the copy of a box, 0 without one."""
        return self._copies[number].change if number in self._copies else 0

    def hear_list(self, rows):
        """Takes another list; copies of what is not in it, or without r, are forgotten."""
        self._list = rows
        present = self.readable()
        for number in list(self._copies):
            if number not in present:
                self.forget(number)

    def forget(self, number):
        """Forgets the copy of a box, if there is one."""
        self._copies.pop(number, None)

    def hear_since(self, number, change, told, lost, letters):
        """Takes what came into a box since its copy.

        told has rows (uid, change, flags, turn), lost the uids that are gone, None if all are that
        are not told; letters has those of the device's own puts by their uids.
        """
        copy = self._copies.setdefault(number, Copy(change))
        copy.change = change
        if lost is None:
            present = {row[0]: True for row in told}
            lost = [uid for uid in copy.rows if uid not in present]
        for uid in lost:
            copy.drop(uid)
        for uid, at, flags, turn in told:
            copy.rows[uid] = (at, flags, turn)
        for uid, letter in letters.items():
            if uid in copy.rows:
                copy.letters[uid] = letter

    def missing(self):
        """The pairs (number, uid) of the records whose letters are not there, by box and uid."""
        found = []
        for number in sorted(self._copies):
            copy = self._copies[number]
            found.extend([(number, uid) for uid in sorted(copy.rows) if uid not in copy.letters])
        return found

    def hear_letter(self, number, uid, letter):
        """Takes a letter, if the copy has its record still."""
        copy = self.copy_of(number)
        if copy is not None and uid in copy.rows:
            copy.letters[uid] = letter

    def drop(self, number, uid):
        """Drops a record that is not in the box any more."""
        copy = self.copy_of(number)
        if copy is not None:
            copy.drop(uid)

    def state(self):
        """All of it as a plain value."""
        rows = []
        for number in sorted(self._copies):
            copy = self._copies[number]
            rows.append((number, copy.change, copy.records()))
        return self._list, tuple(rows)


def copies_of(state):
    """The copies with this state."""
    copies = Copies()
    rows, held = state
    copies._list = rows
    for number, change, records in held:
        copy = Copy(change)
        for _, uid, at, flags, turn, letter in records:
            copy.rows[uid] = (at, flags, turn)
            if letter is not None:
                copy.letters[uid] = letter
        copies._copies[number] = copy
    return copies
