"""Stores: the boxes and filters of the users of one house (s1 to s10)."""

from oncemail.acts import ACTS, act_on
from oncemail.boxes import record_of
from oncemail.letters import size_of
from oncemail.meant import meant
from oncemail.names import is_deed
from oncemail.shelves import Shelves, shelves_of

NOTICES = 1


class Store:
    """What the users of a house have; users are ascending."""

    def __init__(self, users):
        self._shelves = Shelves(users)

    def do(self, turn, user, deed, values):
        """The answer of a deed; values are what earlier deeds of the same device gave."""
        if not is_deed(deed) or deed[0] not in ACTS:
            return ("no", "name")
        return act_on(self._shelves, turn, user, meant(deed, dict(values)))

    def boxes(self, user):
        """The list of the boxes that are there for a user."""
        return self._shelves.rows(user)

    def look(self, user, number):
        """What a user sees of a box."""
        place = self._shelves.place_of(user, number)
        if place is None:
            return ("no", "none")
        letters = self._shelves.letters_of(user, place)
        if "r" in letters:
            return ("seen", *self._shelves.box_at(place)[1:])
        if "i" in letters:
            many, signs = self._shelves.rest_of(place)
            return ("room", max(many, 0), max(signs, 0))
        return ("there",)

    def since(self, user, number, change):
        """What came into a box, and what is gone of it, since a change."""
        box = self._readable(user, number)
        if box[0] == "no":
            return box
        _, following, last, floor, kept, gone = box
        if change < floor or change > last:
            return ("all", following, last, kept)
        later = tuple([record for record in kept if record[2] > change])
        lost = tuple([pair for pair in gone if pair[1] > change])
        return ("since", following, last, later, lost)

    def letter(self, user, number, uid):
        """A letter of a box."""
        box = self._readable(user, number)
        if box[0] == "no":
            return box
        record = record_of(box, uid)
        return ("no", "uid") if record is None else record[5]

    def records(self, user, number):
        """The records of a box."""
        box = self._readable(user, number)
        return box if box[0] == "no" else box[4]

    def _readable(self, user, number):
        """The box that a user may read with this number, or why he may not."""
        place = self._shelves.place_of(user, number)
        if place is None:
            return ("no", "none")
        if "r" not in self._shelves.letters_of(user, place):
            return ("no", "rights")
        return self._shelves.box_at(place)

    def file(self, turn, user, pairs, letter):
        """Files a letter into a user's own boxes with their flags, or into none of them."""
        size = size_of(letter)
        places = [(user, number) for number, _ in pairs]
        for place in places:
            if not self._shelves.has_room(place, (size,)):
                return False
        for place, (_, flags) in zip(places, pairs):
            self._shelves.put(place, ((flags, turn, letter),), (size,))
        return True

    def notice(self, turn, user, letter):
        """Puts a letter into a user's notices, which always have room for it."""
        self._shelves.put((user, NOTICES), (((), turn, letter),), (size_of(letter),))

    def has(self, user, number):
        """Whether a user has not unmade his own box with this number."""
        return (user, number) in self._shelves.own_places(user)

    def next_number(self, user):
        """The number that a user gets next."""
        return self._shelves.next_number(user)

    def number_of(self, user, name):
        """A user's number of his own box with this name, or None."""
        return self._shelves.number_of(user, name)

    def filter_of(self, user):
        """The text of a user's filter."""
        return self._shelves.filter_of(user)

    def state(self):
        """All of it as a plain value."""
        return self._shelves.state()

    def branch(self):
        """Another store with the same state."""
        other = Store(())
        other._shelves = self._shelves.branch()
        return other


def store_of(state):
    """The store with this state."""
    store = Store(())
    store._shelves = shelves_of(state[1])
    return store
