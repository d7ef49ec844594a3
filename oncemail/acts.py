"""The deeds on the boxes of a house: their reasons and what they do (s4 to s7)."""

from oncemail.boxes import flags_behind
from oncemail.errors import BadFilter
from oncemail.filters import read_filter
from oncemail.letters import letter_or_none, size_of
from oncemail.names import completed
from oncemail.outcomes import MOST_FLAGS

MOST_BOXES = 60
# A user's numbers of the boxes that he keeps: inbox, notices and sent.
KEPT = (0, 1, 2)


def act_on(shelves, turn, user, deed):
    """The answer of a right deed, whose -k are replaced; None and 0 stand for what is not there."""
    act = ACTS[deed[0]]
    return act(shelves, turn, user, deed)


def refused(reason):
    """The answer of a deed that is refused."""
    return ("no", reason)


def lacking(shelves, user, needs):
    """The reason for which boxes, each with the letters of rights that it needs, are not to be used."""
    places = [shelves.place_of(user, number) for number, _ in needs]
    if None in places:
        return "none"
    for place, (_, letters) in zip(places, needs):
        present = shelves.letters_of(user, place)
        if not all([letter in present for letter in letters]):
            return "rights"
    return ""


def make(shelves, _, user, deed):
    """Makes a box."""
    if len(shelves.own_places(user)) >= MOST_BOXES:
        return refused("many")
    if shelves.number_of(user, deed[1]) is not None:
        return refused("there")
    return ("ok", shelves.make(user, deed[1]))


def lacking_own(shelves, user, number):
    """The reason for which a box is not to be renamed or unmade by a user."""
    place = shelves.place_of(user, number)
    if place is None:
        return "none"
    if place[0] != user:
        return "rights"
    return "kept" if number in KEPT else ""


def unmake(shelves, _, user, deed):
    """Unmakes a box."""
    reason = lacking_own(shelves, user, deed[1])
    if reason != "":
        return refused(reason)
    shelves.unmake(shelves.place_of(user, deed[1]))
    return ("ok", None)


def rename(shelves, _, user, deed):
    """Gives a box another name."""
    reason = lacking_own(shelves, user, deed[1])
    if reason == "" and shelves.number_of(user, deed[2]) is not None:
        reason = "there"
    if reason != "":
        return refused(reason)
    shelves.rename(shelves.place_of(user, deed[1]), deed[2])
    return ("ok", None)


def grant(shelves, _, user, deed):
    """Gives another user rights on a box."""
    _, number, other, letters = deed
    reason = lacking(shelves, user, ((number, "a"),))
    if reason == "none" or not shelves.has_user(other):
        return refused("none")
    if reason != "":
        return refused(reason)
    place = shelves.place_of(user, number)
    if place[0] == other:
        return refused("kept")
    shelves.give(place, other, completed(letters))
    return ("ok", None)


def leave(shelves, _, user, deed):
    """Gives up all rights on a box."""
    place = shelves.place_of(user, deed[1])
    if place is None:
        return refused("none")
    if place[0] == user:
        return refused("kept")
    shelves.give(place, user, "")
    return ("ok", None)


def put(shelves, turn, user, deed):
    """Puts a letter into a box."""
    _, number, flags, text = deed
    letter = letter_or_none(text)
    if letter is None:
        return refused("text")
    if len(flags) > MOST_FLAGS:
        return refused("many")
    reason = lacking(shelves, user, ((number, "i" if flags == () else "is"),))
    if reason != "":
        return refused(reason)
    place = shelves.place_of(user, number)
    sizes = (size_of(letter),)
    if not shelves.has_room(place, sizes):
        return refused("full")
    uids = shelves.put(place, ((flags, turn, letter),), sizes)
    return ("ok", uids[0] if "r" in shelves.letters_of(user, place) else None)


def records_with(box, uids):
    """The records of a box with these uids, in their order, or None if it lacks one."""
    chosen = {uid: True for uid in uids}
    found = [record for record in box[4] if record[1] in chosen]
    return found if len(found) == len(uids) else None


def flag(shelves, _, user, deed):
    """Changes the flags of records."""
    _, number, uids, mode, flags = deed
    if len(flags) > MOST_FLAGS:
        return refused("many")
    reason = lacking(shelves, user, ((number, "s"),))
    if reason != "":
        return refused(reason)
    place = shelves.place_of(user, number)
    records = records_with(shelves.box_at(place), uids)
    if records is None:
        return refused("uid")
    for record in records:
        if len(flags_behind(record[3], mode, flags)) > MOST_FLAGS:
            return refused("full")
    shelves.flag(place, uids, mode, flags)
    return ("ok", shelves.box_at(place)[2])


def copy(shelves, _, user, deed):
    """Puts copies of records into a box."""
    reason = lacking(shelves, user, ((deed[1], "r"), (deed[3], "i")))
    if reason != "":
        return refused(reason)
    return copied(shelves, user, deed)


def move(shelves, _, user, deed):
    """Takes records out of a box and puts them into another one."""
    reason = lacking(shelves, user, ((deed[1], "re"), (deed[3], "i")))
    if reason != "":
        return refused(reason)
    return copied(shelves, user, deed)


def copied(shelves, user, deed):
    """The answer of a copy or a move for which no right is lacking."""
    kind, number, uids, target = deed
    place = shelves.place_of(user, number)
    goal = shelves.place_of(user, target)
    records = records_with(shelves.box_at(place), uids)
    if records is None:
        return refused("uid")
    if kind == "move" and place == goal:
        return refused("there")
    sizes = [size_of(record[5]) for record in records]
    if len(records) > 0 and not shelves.has_room(goal, sizes):
        return refused("full")
    letters = shelves.letters_of(user, goal)
    rows = []
    for record in records:
        rows.append((record[3] if "s" in letters else (), record[4], record[5]))
    found = shelves.put(goal, tuple(rows), sizes) if len(rows) > 0 else ()
    if kind == "move":
        shelves.take(place, uids, sizes)
    return ("ok", found if "r" in letters else None)


def take(shelves, _, user, deed):
    """Takes records out of a box."""
    reason = lacking(shelves, user, ((deed[1], "e"),))
    if reason != "":
        return refused(reason)
    place = shelves.place_of(user, deed[1])
    records = records_with(shelves.box_at(place), deed[2])
    if records is None:
        return refused("uid")
    shelves.take(place, deed[2], [size_of(record[5]) for record in records])
    return ("ok", shelves.box_at(place)[2])


def change_filter(shelves, _, user, deed):
    """Gives the user another filter."""
    if deed[1] != "" and not is_filter_text(deed[1]):
        return refused("text")
    shelves.change_filter(user, deed[1])
    return ("ok", None)


def is_filter_text(text):
    """Whether a text is one of a filter."""
    try:
        read_filter(text)
        return True
    except BadFilter:
        return False


ACTS = {
    "make": make,
    "unmake": unmake,
    "rename": rename,
    "grant": grant,
    "put": put,
    "flag": flag,
    "copy": copy,
    "move": move,
    "take": take,
    "leave": leave,
    "filter": change_filter,
}
