"""What waits for another house, and what was taken from it (h8)."""


class Waiting:
    """An entry that waits."""

    def __init__(self, turn, offered, wanted, entry):
        self.turn = turn
        self.offered = offered
        # Whether its teller wants it back.
        self.wanted = wanted
        self.entry = entry


class Post:
    """The post of one other house."""

    def __init__(self):
        # The number that the next entry gets, and the entries that wait by their numbers.
        self.following = 0
        self.waiting = {}
        # The numbers below low were taken from that house or are never said again.
        self.low = 0
        self.taken = {}

    def put(self, turn, entry):
        """Lets an entry wait."""
        self.waiting[self.following] = Waiting(turn, False, False, entry)
        self.following += 1

    def least(self):
        """The least number that waits, or the next one."""
        return min(list(self.waiting) + [self.following])

    def numbers(self):
        """The numbers that wait, ascending."""
        return sorted(self.waiting)

    def has_taken(self, number):
        """Whether a number needs no second arrival."""
        return number < self.low or number in self.taken

    def raise_low(self, low):
        """Forgets what was taken with numbers that are not said any more."""
        self.low = low
        for number in list(self.taken):
            if number < low:
                del self.taken[number]

    def rows(self):
        """The entries that wait, by number: (number, turn, offered, wanted back, entry)."""
        found = []
        for number in self.numbers():
            held = self.waiting[number]
            found.append((number, held.turn, held.offered, held.wanted, held.entry))
        return tuple(found)

    def state(self):
        """All of it as a plain value."""
        return self.following, self.rows(), self.low, tuple(sorted(self.taken))


def post_of(following, rows, low, taken):
    """The post with this state."""
    post = Post()
    post.following = following
    for number, turn, offered, wanted, entry in rows:
        post.waiting[number] = Waiting(turn, offered, wanted, entry)
    post.low = low
    post.taken = {number: True for number in taken}
    return post
