"""What -k stands for in the deeds of a device (c8, s4)."""

# The kinds of deeds that have a box, a second box behind the uids, and uids.
BOXED = ("unmake", "rename", "grant", "put", "flag", "copy", "move", "take", "leave")
TWO_BOXED = ("copy", "move")
WITH_UIDS = ("flag", "copy", "move", "take")


def meant(deed, values):
    """The deed with the numbers for which -k stands; values is a dict of what deeds gave.

    A box that stands for nothing is None, and such a uid is 0, which no record has.
    """
    if deed[0] not in BOXED:
        return deed
    parts = list(deed)
    parts[1] = meant_box(deed[1], values)
    if deed[0] in WITH_UIDS:
        parts[2] = meant_uids(parts[1], deed[2], values)
    if deed[0] in TWO_BOXED:
        parts[3] = meant_box(deed[3], values)
    return tuple(parts)


def meant_box(number, values):
    """The user's number of a box, or None."""
    if number >= 0:
        return number
    value = values.get(-number, None)
    return value[1] if value is not None and value[0] == "box" else None


def meant_uids(box, uids, values):
    """The uids of a deed on this box, ascending, each once."""
    found = []
    for uid in uids:
        if uid < 0:
            value = values.get(-uid, None)
            known = value is not None and value[:2] == ("uid", box)
            uid = value[2] if known else 0
        found.append(uid)
    return tuple(sorted(set(found)))


def given(deed, value):
    """What -k stands for behind a deed of right numbers that gave this value, or None."""
    kind = deed[0]
    if kind == "make":
        return ("box", value)
    if kind == "put" and value is not None:
        return ("uid", deed[1], value)
    if kind in TWO_BOXED and value is not None and len(value) == 1:
        return ("uid", deed[3], value[0])
    return None
