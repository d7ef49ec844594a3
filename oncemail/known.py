"""The devices that a house has met (c10, h4)."""


class Known:
    """What a house keeps of a device: its greatest life, and of this life the deeds that were done."""

    def __init__(self, life, heard, last):
        self.life = life
        self.heard = heard
        self.last = last
        # By number: the answer, and what -k stands for behind this deed or None.
        self.answers = {}

    def meanings(self):
        """What -k of the deeds whose answers are kept stands for, pairs by number."""
        pairs = []
        for number in sorted(self.answers):
            value = self.answers[number][1]
            if value is not None:
                pairs.append((number, value))
        return tuple(pairs)

    def forget(self, heard):
        """Forgets the answers that the device has heard."""
        self.heard = heard
        for number in list(self.answers):
            if number <= heard:
                del self.answers[number]

    def state(self):
        """All of it as a plain value."""
        rows = []
        for number in sorted(self.answers):
            answer, value = self.answers[number]
            rows.append((number, answer, value))
        return self.life, self.heard, self.last, tuple(rows)


class Devices:
    """The devices of all users of a house."""

    def __init__(self):
        self._known = {}

    def known(self, user, device):
        """What is kept of a device, or None."""
        return self._known.get((user, device), None)

    def others_of(self, user, device):
        """How many other devices of this user are known."""
        return len([key for key in self._known if key[0] == user and key[1] != device])

    def last_of(self, user, device, life):
        """The number of the last deed of this life, which is none smaller than the kept one."""
        known = self.known(user, device)
        return known.last if known is not None and known.life == life else 0

    def is_news(self, user, device, life, heard):
        """Whether a hello changes what is kept."""
        known = self.known(user, device)
        return known is None or life > known.life or heard > known.heard

    def meet(self, user, device, life, heard):
        """Keeps what a hello tells."""
        known = self.known(user, device)
        if known is None or life > known.life:
            known = Known(life, 0, 0)
            self._known[(user, device)] = known
        if heard > known.heard:
            known.forget(heard)

    def state(self):
        """All of them as a plain value."""
        rows = []
        for key in sorted(self._known):
            known = self._known[key].state()
            rows.append((*key, *known))
        return tuple(rows)


def devices_of(rows):
    """The devices whose state has these rows."""
    devices = Devices()
    for user, device, life, heard, last, answers in rows:
        known = Known(life, heard, last)
        for number, answer, value in answers:
            known.answers[number] = (answer, value)
        devices._known[(user, device)] = known
    return devices
