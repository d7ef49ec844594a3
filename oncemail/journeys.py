"""The journeys of letters: groups, filters, forwards, and what is told of them (h6, h7).

A journey is (name, teller, told, trail, reader, letter); an entry that waits has the word
`letter` ahead of it.
"""

from oncemail.addresses import write_address
from oncemail.filters import read_filter, run_filter
from oncemail.outcomes import MOST_FLAGS

CAUSES = ("unknown", "group", "nobody", "refused", "full", "unreached", "withdrawn")
INBOX = 0


class Arrival:
    """What becomes of a letter at a user: the outcome of his filter, and where it was filed."""

    def __init__(self, outcome, filed):
        self.outcome = outcome
        self.filed = {number: True for number in filed}


def travel(ledger, turn, journeys):
    """Does journeys whole, each with what begins by it ahead of the next one."""
    waiting = journeys[::-1]
    while waiting:
        begun = step(ledger, turn, waiting.pop())
        waiting.extend(begun[::-1])


def step(ledger, turn, journey):
    """Does a journey; the journeys that begin by it."""
    user, _, house = journey[4].partition("@")
    if house in ledger.posts:
        ledger.posts[house].put(turn, ("letter", *journey))
        return []
    if house == ledger.name and user in ledger.groups:
        return at_group(ledger, turn, journey)
    if house == ledger.name and user in ledger.users:
        return at_user(ledger, turn, user, journey)
    end(ledger, turn, journey, "unknown")
    return []


def end(ledger, turn, journey, cause):
    """Ends a journey by a cause."""
    tell(ledger, turn, journey[0], journey[1], journey[2], cause)


def tell(ledger, turn, name, teller, told, cause):
    """Tells the teller of a journey why it came to nothing."""
    user, _, house = teller.partition("@")
    if house in ledger.posts:
        ledger.posts[house].put(turn, ("notice", name, teller, told, cause))
    key = (name, teller, told)
    if house != ledger.name or user not in ledger.users or key in ledger.told:
        return
    ledger.told[key] = cause
    ledger.store.notice(turn, user, notice_of(name, teller, told, cause))


def notice_of(name, teller, told, cause):
    """The letter that tells a cause."""
    headers = (("From", told), ("To", teller), ("Subject", f"not delivered: {cause}"))
    words = " ".join([str(part) for part in name[1:]])
    return ("letter", headers, ("lines", (f"letter {words}",)))


def at_group(ledger, turn, journey):
    """A journey arrives at a group."""
    name, teller, told, trail, reader, letter = journey
    members = ledger.groups[reader.partition("@")[0]]
    if len(trail) > 0:
        end(ledger, turn, journey, "group")
        return []
    if len(members) == 0:
        end(ledger, turn, journey, "nobody")
    return [(name, teller, told, (reader,), member, letter) for member in members]


def at_user(ledger, turn, user, journey):
    """A journey arrives at a user."""
    name, _, _, trail, reader, letter = journey
    arrival = arrival_at(ledger, turn, user, journey)
    kind = arrival.outcome[0]
    if kind == "refused":
        end(ledger, turn, journey, "refused")
    if kind != "deeds":
        return []
    _, pairs, forward = arrival.outcome
    if forward == reader or forward in trail:
        forward = None
        if len(pairs) == 0:
            pairs = ((INBOX, ()),)
    left = boxes_left(ledger.store, user, pairs, arrival.filed)
    if ledger.store.file(turn, user, left, letter):
        for number, _ in left:
            arrival.filed[number] = True
    else:
        end(ledger, turn, journey, "full")
    if forward is None:
        return []
    return [(name, reader, forward, trail + (reader,), forward, letter)]


def arrival_at(ledger, turn, user, journey):
    """What was kept when the letter arrived at this user first, which is perhaps now."""
    key = (journey[0], user)
    if key not in ledger.arrivals:
        sieve = read_filter(ledger.store.filter_of(user))
        outcome = numbered(ledger.store, user, run_filter(sieve, journey[5], turn))
        ledger.arrivals[key] = Arrival(outcome, ())
    return ledger.arrivals[key]


def numbered(store, user, outcome):
    """An outcome with the user's numbers of boxes, and with its forward address as a text."""
    if outcome[0] != "deeds":
        return outcome
    flags_of = {}
    for name, flags in outcome[1]:
        number = store.number_of(user, name)
        flags_of.setdefault(INBOX if number is None else number, []).extend(list(flags))
    pairs = []
    for number, flags in flags_of.items():
        pairs.append((number, tuple(sorted(set(flags))[:MOST_FLAGS])))
    forward = None if outcome[2] is None else write_address(outcome[2])
    return ("deeds", tuple(pairs), forward)


def boxes_left(store, user, pairs, filed):
    """The pairs of boxes into which a letter is still to be filed."""
    rest = [pair for pair in pairs if pair[0] not in filed]
    has_inbox = INBOX in filed or INBOX in [pair[0] for pair in rest]
    left = []
    for number, flags in rest:
        if store.has(user, number):
            left.append((number, flags))
        elif not has_inbox:
            # A box that he has unmade meanwhile counts as inbox.
            has_inbox = True
            left.append((INBOX, flags))
    return tuple(left)
