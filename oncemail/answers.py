"""What a house answers to the questions of a device (k5)."""

from oncemail.boxes import signs_of
from oncemail.filters import query_or_none
from oncemail.finding import places_found
from oncemail.letters import size_of, write_letter
from oncemail.sending import fates_of
from oncemail.talk import read_box, read_number, say, show_flags, show_uids
from oncemail.threads import forest, row_of


def answer_of(ledger, user, words):
    """The signs with which a question without a literal is answered, or None if it is none."""
    answerer = ANSWERERS.get(words[0], None)
    if answerer is None:
        return None
    return answerer(ledger, user, words[1:])


def row(*parts):
    """The signs of a row of these words and numbers."""
    return say([str(part) for part in parts], None)


def boxes(ledger, user, words):
    """The list of the boxes."""
    if len(words) != 0:
        return None
    rows = [row("box", *told) for told in ledger.store.boxes(user)]
    rows.append(row("ok", ledger.store.next_number(user)))
    return "".join(rows)


def look(ledger, user, words):
    """What is seen of a box."""
    number = read_box(words[0]) if len(words) == 1 else None
    if number is None:
        return None
    seen = ledger.store.look(user, number)
    if seen[0] == "no":
        return row(*seen)
    if seen[0] == "seen":
        parts = seen[1:]
        seen = seen[:4] + (len(seen[4]), signs_of(("box", *parts)))
    return row("ok", *seen)


def since(ledger, user, words):
    """What came into a box since a change."""
    number = read_box(words[0]) if len(words) == 2 else None
    change = read_number(words[1]) if len(words) == 2 else None
    if number is None or change is None:
        return None
    found = ledger.store.since(user, number, change)
    if found[0] == "no":
        return row(*found)
    rows = []
    for _, uid, at, flags, turn, held in found[3]:
        rows.append(row("kept", uid, at, show_flags(flags), turn, size_of(held)))
    if found[0] == "since":
        rows.extend([row("gone", *pair) for pair in found[4]])
    told = found[:3]
    rows.append(row("ok", *told))
    return "".join(rows)


def letter(ledger, user, words):
    """A letter of a box."""
    number = read_box(words[0]) if len(words) == 2 else None
    uid = read_number(words[1]) if len(words) == 2 else None
    if number is None or uid is None:
        return None
    found = ledger.store.letter(user, number, uid)
    if found[0] == "no":
        return row(*found)
    return say(("ok",), write_letter(found))


def find(ledger, user, words):
    """The records of a box for which a query holds."""
    number = read_box(words[0]) if len(words) >= 2 else None
    if number is None:
        return None
    query = query_or_none(" ".join(words[1:]))
    if query is None:
        return row("no", "text")
    records = ledger.store.records(user, number)
    if records[:1] == ("no",):
        return row(*records)
    uids = tuple([records[place][1] for place in places_found(records, query)])
    return row("ok", show_uids(uids))


def threads(ledger, user, words):
    """The forest of a box."""
    number = read_box(words[0]) if len(words) == 1 else None
    if number is None:
        return None
    records = ledger.store.records(user, number)
    if records[:1] == ("no",):
        return row(*records)
    rows = []
    for depth, name, uids in forest([row_of(record[1], record[5]) for record in records]):
        # A name that begins as the word of no name does gets this word ahead.
        shown = f"-{name}" if name == "" or name.startswith("-") else name
        rows.append(row("node", depth, show_uids(uids), shown))
    rows.append(row("ok"))
    return "".join(rows)


def fates(ledger, user, words):
    """What became of the letters that the user has sent."""
    if len(words) != 0:
        return None
    rows = [row("fate", *fate) for fate in fates_of(ledger, user)]
    rows.append(row("ok"))
    return "".join(rows)


def rules(ledger, user, words):
    """The filter text."""
    if len(words) != 0:
        return None
    return say(("ok",), ledger.store.filter_of(user))


ANSWERERS = {
    "boxes": boxes,
    "look": look,
    "since": since,
    "letter": letter,
    "find": find,
    "threads": threads,
    "fates": fates,
    "rules": rules,
}
