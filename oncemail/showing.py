"""What a device shows: its copies, and upon them its deeds that are not settled (d5)."""

from oncemail.boxes import flags_behind
from oncemail.names import RIGHTS

# A user's numbers of the boxes that he keeps.
KEPT = (0, 1, 2)
# The mark of a record that no deed means.
UNMARKED = 0


class ShownBox:
    """A box as it is shown.

    Its records are pairs of a mark and a record; the mark is a uid, -k for what put k shows, or
    UNMARKED.
    """

    def __init__(self, owner, name, letters):
        self.owner = owner
        self.name = name
        self.letters = letters
        self.records = []
        # All uids of the copy, with and without their letters.
        self.uids = {}
        # The marks of what puts show by the uids that their answers gave.
        self.marks = {}

    def is_readable(self):
        """Whether its records are shown."""
        return "r" in self.letters

    def show_copy(self, copy):
        """Shows the records of a copy that have their letters."""
        for record in copy.records():
            self.uids[record[1]] = True
            if record[5] is not None:
                self.records.append((record[1], record))


class View:
    """All boxes as they are shown."""

    def __init__(self, user, copies, deeds):
        self.user = user
        # By number, or -k for what make k shows.
        self.boxes = {}
        self._means = deeds.means
        # By the number that its answer gave: -k for what make k shows.
        self._shown_for = {}
        for number, owner, name, letters in copies.rows():
            box = ShownBox(owner, name, letters)
            self.boxes[number] = box
            copy = copies.copy_of(number)
            if copy is not None:
                box.show_copy(copy)
        for number in sorted(deeds.rows):
            own = deeds.rows[number]
            show = SHOWS.get(own.deed[0], None)
            if show is not None:
                show(self, number, own)

    def rows(self):
        """The rows (number, owner, name, letters), by number, -k behind the others."""
        numbers = [number for number in sorted(self.boxes) if number >= 0]
        made = [number for number in sorted(self.boxes) if number < 0]
        rows = []
        for number in numbers + made[::-1]:
            box = self.boxes[number]
            rows.append((number, box.owner, box.name, box.letters))
        return tuple(rows)

    def records(self, number):
        """The records of a box that are shown, or None."""
        box = self.boxes.get(number, None)
        if box is None or not box.is_readable():
            return None
        return tuple([record for _, record in box.records])

    def has_own(self, name):
        """Whether a box of the user is shown with this name."""
        return any([box.owner == self.user and box.name == name for box in self.boxes.values()])

    def add_box(self, number, name, given):
        """Shows a box that is made, for which the answer has perhaps given a number."""
        self.boxes[number] = ShownBox(self.user, name, RIGHTS)
        if given is not None:
            self._shown_for[given] = number

    def number_of(self, number):
        """The number at which the box is shown that a deed means by this number, or None."""
        if number not in self.boxes and number < 0:
            value = self._means.get(-number, None)
            number = value[1] if value is not None and value[0] == "box" else number
        if number not in self.boxes:
            number = self._shown_for.get(number, number)
        return number if number in self.boxes else None

    def box_of(self, number):
        """The box that a deed means by this number, or None."""
        shown = self.number_of(number)
        return None if shown is None else self.boxes[shown]

    def marks_of(self, number, uids):
        """The marks of the records that a deed means by these uids in this box, a dict of True."""
        shown = self.number_of(number)
        box = self.boxes[shown]
        marks = {}
        for uid in uids:
            value = self._means.get(-uid, None) if uid < 0 else None
            if value is not None and value[0] == "uid" and self.number_of(value[1]) == shown:
                uid = value[2]
            marks[box.marks.get(uid, uid)] = True
        return marks


def show_make(view, number, own):
    """Shows a box that is made until the list has it."""
    value = own.value()
    if not view.has_own(own.deed[1]) and value not in view.boxes:
        view.add_box(-number, own.deed[1], value)


def own_number(view, number):
    """The number at which a box is shown that the user may rename and unmake, or None."""
    shown = view.number_of(number)
    if shown is None or shown in KEPT or view.boxes[shown].owner != view.user:
        return None
    return shown


def show_unmake(view, _, own):
    """Takes away a box that is unmade."""
    shown = own_number(view, own.deed[1])
    if shown is not None:
        del view.boxes[shown]


def show_rename(view, _, own):
    """Shows the other name of a box."""
    shown = own_number(view, own.deed[1])
    if shown is not None and not view.has_own(own.deed[2]):
        box = view.boxes[shown]
        box.name = own.deed[2]


def show_leave(view, _, own):
    """Takes away a box that is left."""
    shown = view.number_of(own.deed[1])
    if shown is not None and view.boxes[shown].owner != view.user:
        del view.boxes[shown]


def show_put(view, number, own):
    """Shows a letter that is put until the copy has it."""
    box = view.box_of(own.deed[1])
    if box is None or not box.is_readable() or own.letter() is None or own.value() in box.uids:
        return
    box.records.append((-number, ("own", -number, own.deed[2], 0, own.letter())))
    if own.value() is not None:
        box.marks[own.value()] = -number


def show_flag(view, _, own):
    """Shows the other flags of records."""
    box = view.box_of(own.deed[1])
    if box is None:
        return
    _, number, uids, mode, flags = own.deed
    marks = view.marks_of(number, uids)
    records = []
    for mark, record in box.records:
        if mark in marks:
            ahead = record[:-3]
            record = ahead + (flags_behind(record[-3], mode, flags),) + record[-2:]
        records.append((mark, record))
    box.records = records


def show_take(view, _, own):
    """Takes away the records that are taken."""
    box = view.box_of(own.deed[1])
    if box is not None:
        take_out(box, view.marks_of(own.deed[1], own.deed[2]))


def take_out(box, marks):
    """Takes the records with these marks away from a box; what is taken away."""
    taken = [pair[1] for pair in box.records if pair[0] in marks]
    box.records = [pair for pair in box.records if pair[0] not in marks]
    return taken


def show_copy(view, number, own):
    """Shows the copies of records in another box."""
    box = view.box_of(own.deed[1])
    goal = view.box_of(own.deed[3])
    if box is not None and goal is not None:
        marks = view.marks_of(own.deed[1], own.deed[2])
        show_copies(goal, number, [record for mark, record in box.records if mark in marks])


def show_move(view, number, own):
    """Shows records in another box instead of the one from which they are moved."""
    shown = view.number_of(own.deed[1])
    goal = view.number_of(own.deed[3])
    if shown is not None and goal is not None and shown != goal:
        marks = view.marks_of(own.deed[1], own.deed[2])
        show_copies(view.boxes[goal], number, take_out(view.boxes[shown], marks))


def show_copies(goal, number, records):
    """Shows copies of records in a box, as deed number shows them."""
    if goal.is_readable():
        for record in records:
            parts = record[-3:]
            goal.records.append((UNMARKED, ("own", -number, *parts)))


SHOWS = {
    "make": show_make,
    "unmake": show_unmake,
    "rename": show_rename,
    "leave": show_leave,
    "put": show_put,
    "flag": show_flag,
    "copy": show_copy,
    "move": show_move,
    "take": show_take,
}
