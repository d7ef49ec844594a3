"""The state of a house: what the entries of its journal give in their order (h1, h11)."""

from oncemail.journeys import Arrival, tell, travel
from oncemail.known import Devices, devices_of
from oncemail.meant import given, meant
from oncemail.names import is_deed
from oncemail.posts import Post, post_of
from oncemail.sending import send, want_back
from oncemail.store import Store, store_of


class Ledger:
    """The state of a house; name, users, groups and houses are as they were handed in."""

    def __init__(self, name, users, groups, houses):
        self.name = name
        self.users = users
        self.groups = dict(groups)
        self.store = Store(users)
        self.devices = Devices()
        self.posts = {house: Post() for house in houses}
        # By the pair of a letter's name and a user.
        self.arrivals = {}
        # The addresses of each letter that was sent here.
        self.sent = {}
        # The cause by name, teller and told.
        self.told = {}
        # The greatest turn of an entry, -1 if there was none.
        self.turn = -1

    def apply(self, entry):
        """Does what an entry tells; its answer if it is a deed."""
        act = ACTS[entry[0]]
        parts = entry[1:]
        self.turn = max(self.turn, entry[1])
        return act(self, *parts)

    def state(self):
        """All of it as a plain value."""
        arrivals = []
        for key in sorted(self.arrivals):
            arrival = self.arrivals[key]
            arrivals.append((*key, arrival.outcome, tuple(sorted(arrival.filed))))
        return (
            self.name,
            self.users,
            tuple([(name, self.groups[name]) for name in sorted(self.groups)]),
            tuple(sorted(self.posts)),
            self.store.state(),
            self.devices.state(),
            tuple([(house, *self.posts[house].state()) for house in sorted(self.posts)]),
            tuple(arrivals),
            tuple([(name, self.sent[name]) for name in sorted(self.sent)]),
            tuple([(*key, self.told[key]) for key in sorted(self.told)]),
            self.turn,
        )


def ledger_of(state):
    """The state of a house from its plain value."""
    name, users, groups, houses, store, devices, posts, arrivals, sent, told, turn = state
    ledger = Ledger(name, users, groups, houses)
    ledger.store = store_of(store)
    ledger.devices = devices_of(devices)
    ledger.posts = {house: post_of(*row) for house, *row in posts}
    ledger.arrivals = {row[:2]: Arrival(row[2], row[3]) for row in arrivals}
    ledger.sent = {row[0]: row[1] for row in sent}
    ledger.told = {row[:3]: row[3] for row in told}
    ledger.turn = turn
    return ledger


def do_deed(ledger, turn, user, device, life, number, deed):
    """A deed of a device is done or refused, and its answer kept."""
    known = ledger.devices.known(user, device)
    values = known.meanings()
    kind = deed[0] if is_deed(deed) else ""
    if kind == "send":
        answer = send(ledger, turn, ("name", ledger.name, user, device, life, number), deed)
    elif kind == "back":
        answer = want_back(ledger, turn, ("name", ledger.name, user, device, deed[1], deed[2]))
    else:
        answer = ledger.store.do(turn, user, deed, values)
    value = None
    if answer[0] == "ok":
        value = given(meant(deed, dict(values)), answer[1])
    known.answers[number] = (answer, value)
    known.last = number
    return answer


def meet(ledger, _, user, device, life, heard):
    """A device said hello."""
    ledger.devices.meet(user, device, life, heard)


def take_in(ledger, turn, house, number, thing):
    """A letter or a notice came from another house."""
    post = ledger.posts[house]
    post.taken[number] = True
    parts = thing[1:]
    if thing[0] == "letter":
        travel(ledger, turn, [parts])
    else:
        tell(ledger, turn, *parts)


def offer(ledger, _, house, number):
    """An entry was said to its house."""
    held = ledger.posts[house].waiting[number]
    held.offered = True


def let_go(ledger, _, house, number):
    """An entry has come to its house."""
    post = ledger.posts[house]
    del post.waiting[number]


def give_up(ledger, turn, house, number):
    """An entry of a letter waits no longer, and its teller is told why."""
    held = ledger.posts[house].waiting.pop(number)
    _, name, teller, told = held.entry[:4]
    # Only what is wanted back is given up ahead of its time.
    tell(ledger, turn, name, teller, told, "withdrawn" if held.wanted else "unreached")


def raise_low(ledger, _, house, number):
    """The other house says nothing below this number any more."""
    ledger.posts[house].raise_low(number)


ACTS = {
    "deed": do_deed,
    "met": meet,
    "came": take_in,
    "offer": offer,
    "gone": let_go,
    "up": give_up,
    "low": raise_low,
}
