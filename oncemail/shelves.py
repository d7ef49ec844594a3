"""The boxes of the users of a house, and who has which rights on them (s1, s2, s10)."""

from oncemail.boxes import MOST_LETTERS, MOST_SIGNS, flagged, new_box, put_in, signs_of, taken_out
from oncemail.names import RIGHTS

FIRST_BOXES = ("inbox", "notices", "sent")


class Shelves:
    """All boxes, each at its place: the pair of its owner and of the owner's number of it."""

    def __init__(self, users):
        self._users = users
        self._filters = {}
        # The places of each user's numbers, in their order.
        self._places = {}
        # Of each place whose box is not unmade: name, box and the signs of its letters.
        self._names = {}
        self._boxes = {}
        self._signs = {}
        # The letters of each pair of a place and another user.
        self._rights = {}
        for user in users:
            self._filters[user] = ""
            self._places[user] = []
            for name in FIRST_BOXES:
                self.make(user, name)

    def has_user(self, user):
        """Whether the house has this user."""
        return user in self._places

    def filter_of(self, user):
        """The text of a user's filter."""
        return self._filters[user]

    def change_filter(self, user, text):
        """Gives a user another filter text."""
        self._filters[user] = text

    def next_number(self, user):
        """The number that a user gets next."""
        return len(self._places[user])

    def place_of(self, user, number):
        """The place of the box that is there for a user with this number, or None."""
        places = self._places[user]
        if number is None or not 0 <= number < len(places):
            return None
        return places[number] if self.letters_of(user, places[number]) != "" else None

    def letters_of(self, user, place):
        """The letters of the rights that a user has on a box; empty if it is not there for him."""
        if place not in self._names:
            return ""
        return RIGHTS if place[0] == user else self._rights.get((place, user), "")

    def own_places(self, user):
        """The places of a user's own boxes, by number."""
        return [place for place in self._places[user] if place[0] == user and place in self._names]

    def number_of(self, user, name):
        """The number of a user's own box with this name, or None."""
        for place in self.own_places(user):
            if self._names[place] == name:
                return place[1]
        return None

    def rows(self, user):
        """The list of the boxes that are there for a user."""
        found = []
        for number, place in enumerate(self._places[user]):
            letters = self.letters_of(user, place)
            if letters != "":
                found.append((number, place[0], self._names[place], letters))
        return tuple(found)

    def box_at(self, place):
        """The box at a place."""
        return self._boxes[place]

    def rest_of(self, place):
        """How many letters and signs more a box may have; below 0 if it has too many."""
        return MOST_LETTERS - len(self._boxes[place][4]), MOST_SIGNS - self._signs[place]

    def has_room(self, place, sizes):
        """Whether a box has room for letters of these sizes."""
        letters, signs = self.rest_of(place)
        return len(sizes) <= letters and sum(sizes) <= signs

    def make(self, user, name):
        """Makes a box of this user; his number of it."""
        number = len(self._places[user])
        place = (user, number)
        self._places[user].append(place)
        self._names[place] = name
        self._boxes[place] = new_box()
        self._signs[place] = 0
        return number

    def unmake(self, place):
        """Unmakes a box."""
        del self._names[place]
        del self._boxes[place]
        del self._signs[place]
        for key in list(self._rights):
            if key[0] == place:
                del self._rights[key]

    def rename(self, place, name):
        """Gives a box another name."""
        self._names[place] = name

    def give(self, place, user, letters):
        """Gives another user these rights in the place of those that he had."""
        if letters == "":
            self._rights.pop((place, user), None)
            return
        self._rights[(place, user)] = letters
        if place not in self._places[user]:
            self._places[user].append(place)

    def put(self, place, rows, sizes):
        """Puts letters of these sizes into a box; their uids."""
        self._boxes[place], uids = put_in(self._boxes[place], rows)
        self._signs[place] = self._signs[place] + sum(sizes)
        return uids

    def flag(self, place, uids, mode, flags):
        """Changes the flags of records of a box."""
        self._boxes[place] = flagged(self._boxes[place], uids, mode, flags)

    def take(self, place, uids, sizes):
        """Takes records of these sizes out of a box."""
        self._boxes[place] = taken_out(self._boxes[place], uids)
        self._signs[place] = self._signs[place] - sum(sizes)

    def state(self):
        """All of it as a plain value."""
        return ("store", tuple([self._row(user) for user in self._users]))

    def _row(self, user):
        """The row of a user in the state."""
        granted = {place: [] for place in self.own_places(user)}
        for (place, other), letters in sorted(self._rights.items()):
            if place in granted:
                granted[place].append((other, letters))
        boxes = []
        for place in granted:
            boxes.append((place[1], self._names[place], self._boxes[place], tuple(granted[place])))
        return (user, self._filters[user], tuple(self._places[user]), tuple(boxes))

    def branch(self):
        """Other shelves with the same boxes."""
        other = Shelves(())
        other._users = self._users
        other._filters = dict(self._filters)
        other._places = {user: list(places) for user, places in self._places.items()}
        other._names = {place: name for place, name in self._names.items()}
        other._boxes = {place: box for place, box in self._boxes.items()}
        other._signs = {place: signs for place, signs in self._signs.items()}
        other._rights = {key: letters for key, letters in self._rights.items()}
        return other


def shelves_of(rows):
    """The shelves whose state has these rows."""
    shelves = Shelves(())
    shelves._users = tuple([row[0] for row in rows])
    for user, text, places, boxes in rows:
        shelves._filters[user] = text
        shelves._places[user] = list(places)
        for number, name, box, rights in boxes:
            place = (user, number)
            shelves._names[place] = name
            shelves._boxes[place] = box
            shelves._signs[place] = signs_of(box)
            for other, letters in rights:
                shelves._rights[(place, other)] = letters
    return shelves
