"""Boxes: their records, their room and how they change (c5, s3, s7)."""

from oncemail.letters import size_of

MOST_LETTERS = 1000
MOST_SIGNS = 1000000
MOST_GONE = 200


def new_box():
    """A box in which nothing has been."""
    return ("box", 1, 0, 0, (), ())


def signs_of(box):
    """The signs of all letters of a box."""
    return sum([size_of(record[5]) for record in box[4]])


def record_of(box, uid):
    """The record with this uid, or None."""
    for record in box[4]:
        if record[1] == uid:
            return record
    return None


def has_room(box, sizes):
    """Whether a box has room for letters of these sizes."""
    if len(box[4]) + len(sizes) > MOST_LETTERS:
        return False
    return signs_of(box) + sum(sizes) <= MOST_SIGNS


def put_in(box, rows):
    """The pair of the box with new records (flags, turn, letter) in it and of their uids."""
    _, following, change, floor, kept, gone = box
    change = change + 1
    records = [("kept", following + at, change, *row) for at, row in enumerate(rows)]
    uids = tuple([record[1] for record in records])
    return ("box", following + len(uids), change, floor, kept + tuple(records), gone), uids


def flagged(box, uids, mode, flags):
    """The box with these flags added to some records, dropped from them or set in them."""
    _, following, change, floor, kept, gone = box
    chosen = {uid: True for uid in uids}
    records = []
    for record in kept:
        later = record[3]
        if record[1] in chosen:
            later = flags_behind(record[3], mode, flags)
        if later != record[3]:
            record = ("kept", record[1], change + 1, later, record[4], record[5])
        records.append(record)
    if tuple(records) == kept:
        return box
    return ("box", following, change + 1, floor, tuple(records), gone)


def flags_behind(present, mode, flags):
    """The flags of a record behind a flag deed."""
    if mode == "add":
        return tuple(sorted(set(present + flags)))
    if mode == "drop":
        return tuple([flag for flag in present if flag not in flags])
    return tuple(sorted(set(flags)))


def taken_out(box, uids):
    """The box without some records; what is gone of it is kept as far as a box keeps it."""
    _, following, change, floor, kept, gone = box
    chosen = {uid: True for uid in uids}
    left = tuple([record for record in kept if record[1] not in chosen])
    if len(left) == len(kept):
        return box
    pairs = list(gone) + [(record[1], change + 1) for record in kept if record[1] in chosen]
    pairs = sorted(pairs, key=lambda pair: (pair[1], pair[0]))
    lost = pairs[:-MOST_GONE]
    floor = max([floor] + [pair[1] for pair in lost])
    return ("box", following, change + 1, floor, left, tuple(sorted(pairs[-MOST_GONE:])))
