"""What becomes of a letter by the deeds of a filter (fi5)."""

MOST_FLAGS = 8


def outcome_of(deeds):
    """The outcome of the deeds of all rules whose queries hold, in order."""
    boxes = {}
    forward = None
    dropped = False
    for deed in deeds:
        kind = deed[0]
        if kind == "refuse":
            return ("refused",)
        if kind == "stop":
            break
        if kind == "file":
            add_flags(boxes, deed[1], deed[2])
        elif kind == "keep":
            add_flags(boxes, "inbox", deed[1])
        elif kind == "drop":
            dropped = True
        elif forward is None:
            forward = deed[1]
    if len(boxes) == 0 and forward is None:
        if dropped:
            return ("drop",)
        boxes["inbox"] = []
    filed = [(box, tuple(sorted(flags))) for box, flags in boxes.items()]
    return ("deeds", tuple(filed), forward)


def add_flags(boxes, box, flags):
    """Adds flags to those of a box, which comes behind the other boxes if it is new."""
    present = boxes.setdefault(box, [])
    for flag in flags:
        if flag not in present and len(present) < MOST_FLAGS:
            present.append(flag)


def ends(deeds):
    """Whether nothing more is looked at behind these deeds."""
    return any([deed[0] == "stop" or deed[0] == "refuse" for deed in deeds])
