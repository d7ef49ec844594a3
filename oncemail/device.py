"""Devices: what they keep, their meetings, and what they show (d1 to d7)."""

from oncemail.copies import Copies, copies_of
from oncemail.errors import BadDeed, BadLine
from oncemail.finding import places_found
from oncemail.meeting import Meeting
from oncemail.own_deeds import Deeds, can_be_done, deeds_of
from oncemail.plain import read_plain, show_plain
from oncemail.showing import View

# How own records count in a search: a uid less k, and a turn.
OWN_UIDS = 1000000000
OWN_TURN = 10000


class Device:
    """A device of a user, with a name and a life."""

    def __init__(self, user, name, life):
        self._user = user
        self._name = name
        self._life = life
        self._deeds = Deeds()
        self._copies = Copies()
        # How the last meeting ended that did not end by the closing of its line.
        self._ended = "apart"
        # The meeting on the open line.
        self._meeting = None

    def do(self, deed):
        """The number of a further deed."""
        if not can_be_done(deed):
            raise BadDeed("deed")
        if self._deeds.is_full():
            raise BadDeed("many")
        return self._deeds.put(deed)

    def begin(self):
        """Opens the line."""
        if self._meeting is not None:
            raise BadLine("open")
        hello = ("hello", self._user, self._name, self._life, self._deeds.heard)
        self._meeting = Meeting(hello, self._deeds, self._copies)

    def leave(self):
        """Closes the line."""
        if self._meeting is None:
            raise BadLine("closed")
        self._ended = self._end()
        self._meeting = None

    def _end(self):
        """How the last meeting has ended, if its line were closed now."""
        if self._meeting is None:
            return self._ended
        return "apart" if self._meeting.state == "meets" else self._meeting.state

    def hear(self, text):
        """Hears signs."""
        if self._meeting is None:
            raise BadLine("closed")
        self._meeting.hear(text)

    def say(self):
        """What is to be said since this was asked last."""
        return "" if self._meeting is None else self._meeting.say()

    def state(self):
        """How the last meeting stands or ended."""
        return self._ended if self._meeting is None else self._meeting.state

    def waits(self):
        """The pairs (number, deed) of the deeds that wait."""
        rows = self._deeds.rows
        return tuple([(number, rows[number].deed) for number in self._deeds.waiting(self._deeds.last)])

    def unsettled(self):
        """The deeds that are not settled: (number, deed, answer)."""
        found = []
        for number in sorted(self._deeds.rows):
            own = self._deeds.rows[number]
            found.append((number, own.deed, own.answer))
        return tuple(found)

    def answers(self):
        """The answers of all deeds but the forgotten ones, pairs by number."""
        return self._deeds.answers()

    def forget(self, number):
        """Forgets the answers up to this number."""
        self._deeds.forget(number)

    def _view(self):
        """What is shown."""
        return View(self._user, self._copies, self._deeds)

    def boxes(self):
        """The boxes as they are shown: (number, owner, name, letters)."""
        return self._view().rows()

    def kept(self, number):
        """The copy of a box, or None."""
        copy = self._copies.copy_of(number)
        return None if copy is None else ("copy", copy.change, copy.records())

    def shown(self, number):
        """The records of a box as they are shown, or None."""
        return self._view().records(number)

    def search(self, number, query):
        """The uids and -k of the shown records for which a query holds, or None."""
        records = self.shown(number)
        if records is None:
            return None
        places = places_found([asked_record(record) for record in records], query)
        return tuple([records[place][1] for place in places])

    def text(self):
        """All of it on one line, as if the line were closed."""
        own = (self._user, self._name, self._life, self._end())
        return show_plain(("device", own, self._deeds.state(), self._copies.state()))


def asked_record(record):
    """A shown record as one of which a query is asked."""
    if record[0] == "kept":
        return record
    _, minus, flags, _, letter = record
    return ("kept", OWN_UIDS + minus, 0, flags, OWN_TURN, letter)


def device_of(text):
    """The device of a text that one gave."""
    _, own, deeds, copies = read_plain(text)
    user, name, life, ended = own
    device = Device(user, name, life)
    device._ended = ended
    device._deeds = deeds_of(deeds)
    device._copies = copies_of(copies)
    return device
