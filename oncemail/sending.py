"""The deeds that send letters and want them back, and what became of them (h5, h9, h10)."""

from oncemail.addresses import bare_address
from oncemail.contents import writer_of
from oncemail.journeys import tell, travel
from oncemail.letters import letter_or_none

MOST_ADDRESSES = 30
SENT = 2


def send(ledger, turn, name, deed):
    """The answer of a deed that sends a letter of this name."""
    _, addresses, text = deed
    user = name[2]
    teller = f"{user}@{ledger.name}"
    if len(addresses) == 0 or None in [bare_address(address) for address in addresses]:
        return ("no", "name")
    letter = letter_or_none(text)
    if letter is None:
        return ("no", "text")
    if writer_of(letter) != bare_address(teller):
        return ("no", "from")
    if len(addresses) > MOST_ADDRESSES:
        return ("no", "many")
    if not ledger.store.file(turn, user, ((SENT, ()),), letter):
        return ("no", "full")
    unlike = list({address: True for address in addresses})
    ledger.sent[name] = tuple(unlike)
    travel(ledger, turn, [(name, teller, address, (), address, letter) for address in unlike])
    return ("ok", None)


def want_back(ledger, turn, name):
    """The answer of a deed that wants the letter of this name back."""
    if name not in ledger.sent:
        return ("no", "none")
    teller = f"{name[2]}@{ledger.name}"
    many = 0
    for house in sorted(ledger.posts):
        post = ledger.posts[house]
        for number in post.numbers():
            held = post.waiting[number]
            if held.entry[:3] != ("letter", name, teller):
                continue
            if held.offered:
                held.wanted = True
                continue
            del post.waiting[number]
            tell(ledger, turn, name, teller, held.entry[3], "withdrawn")
            many += 1
    return ("ok", many)


def fates_of(ledger, user):
    """What became of each letter that a user has sent: (device, life, number, address, state)."""
    teller = f"{user}@{ledger.name}"
    waiting = {}
    for post in ledger.posts.values():
        for held in post.waiting.values():
            if held.entry[0] == "letter":
                waiting[held.entry[1:4]] = True
    found = []
    for name in sorted(ledger.sent):
        if name[2] != user:
            continue
        for address in ledger.sent[name]:
            key = (name, teller, address)
            state = ledger.told.get(key, "waits" if key in waiting else "over")
            found.append((name[3], name[4], name[5], address, state))
    return tuple(found)
