"""The lines of a world, which carry signs between two ends (w2).

An end is the text of a house's name, or (house, user, device).
"""


class Wire:
    """An open line between two ends, which know it by its mark."""

    def __init__(self, first, second, mark):
        self.ends = (first, second)
        self.mark = mark
        # What each end has said and is not handed over yet.
        self._said = ["", ""]
        # How many signs of each end are handed over in this turn if it is to be closed, else None.
        self._limits = None

    def place_of(self, end):
        """The place of an end on this line."""
        return 0 if self.ends[0] == end else 1

    def joins(self, one, other):
        """Whether the line is open between these two ends."""
        return self.ends == (one, other) or self.ends == (other, one)

    def is_closing(self):
        """Whether the line is closed at the end of this turn."""
        return self._limits is not None

    def close(self, first, many, others):
        """Lets the line be closed behind so many signs of this end, and of the other one."""
        self._limits = (many, others) if self.place_of(first) == 0 else (others, many)

    def say(self, end, text):
        """Takes what an end says."""
        self._said[self.place_of(end)] += text

    def hand_over(self):
        """What the ends are to hear: pairs of an end and a text; it is forgotten by that."""
        pairs = []
        for place in (0, 1):
            text = self._said[place]
            if self._limits is not None:
                text = text[:self._limits[place]]
            if text != "":
                pairs.append((self.ends[1 - place], text))
        self._said = ["", ""]
        return pairs
