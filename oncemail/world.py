"""Worlds: houses, devices, and the lines that carry signs between them (w1, w2)."""

from oncemail.device import Device, device_of
from oncemail.errors import BadDeed, BadTurn
from oncemail.house import first_line, house_of
from oncemail.plain import read_plain, show_plain
from oncemail.signs import is_natural
from oncemail.wires import Wire

MOST_TURN = 10000


class World:
    """Houses that know each other, and devices of their users."""

    def __init__(self, houses, devices):
        self._turn = 0
        self._houses = {}
        # The pieces of each house's journal.
        self._journals = {}
        # By (house, user, device).
        self._devices = {}
        # The open lines in their order, and how many were opened.
        self._wires = []
        self._opened = 0
        # The houses that fall in this turn, each with how many signs its journal gets.
        self._falls = {}
        for name, users, groups in houses:
            others = tuple([house[0] for house in houses if house[0] != name])
            self._found(name, first_line(name, users, groups, others))
        for house, user, device, life in devices:
            self._devices[(house, user, device)] = Device(user, device, life)

    def _found(self, name, text):
        """Makes a house of its journal, which loses what is not read of it."""
        house, length = house_of(text)
        self._houses[name] = house
        self._journals[name] = [text[:length]]

    def turn(self, fates):
        """Does a turn; the places of the fates that are passed over."""
        if self._turn >= MOST_TURN:
            raise BadTurn("turn")
        passed = []
        for place, fate in enumerate(fates):
            if not befall(self, fate):
                passed.append(place)
        for wire in self._wires:
            for end, text in wire.hand_over():
                self._hear(wire, end, text)
        self._turn += 1
        for name in sorted(self._houses):
            self._work(name)
        self._let_devices_say()
        self._close([wire for wire in self._wires if wire.is_closing() or self._falls_at(wire)])
        for name in sorted(self._falls):
            self._found(name, self.journal(name))
        self._falls = {}
        return tuple(passed)

    def _hear(self, wire, end, text):
        """Lets an end hear signs."""
        if end in self._houses:
            self._houses[end].hear(wire.mark, text)
        else:
            self._devices[end].hear(text)

    def _work(self, name):
        """Lets a house work and say."""
        text = self._houses[name].work(self._turn)
        if name in self._falls:
            many = self._falls[name]
            self._journals[name].append(text if many is None else text[:many])
            return
        self._journals[name].append(text)
        wires = {wire.mark: wire for wire in self._wires}
        for mark, said in self._houses[name].say():
            wires[mark].say(name, said)

    def _let_devices_say(self):
        """Lets each device with an open line say."""
        for wire in self._wires:
            for end in wire.ends:
                if end in self._devices:
                    wire.say(end, self._devices[end].say())

    def _falls_at(self, wire):
        """Whether a house at an end of this line falls."""
        return any([end in self._falls for end in wire.ends])

    def _close(self, closed):
        """Closes lines at both ends."""
        for wire in closed:
            for end in wire.ends:
                if end in self._houses:
                    self._houses[end].detach(wire.mark)
                else:
                    self._devices[end].leave()
        marks = [wire.mark for wire in closed]
        self._wires = [wire for wire in self._wires if wire.mark not in marks]

    def wire_between(self, one, other):
        """The open line between two ends, or None."""
        for wire in self._wires:
            if wire.joins(one, other):
                return wire
        return None

    def is_pair(self, one, other):
        """Whether a line may be opened between two things."""
        if not self._is_end(one) or not self._is_end(other) or one == other:
            return False
        if isinstance(one, tuple):
            return one[0] == other
        return isinstance(other, str) or other[0] == one

    def _is_end(self, thing):
        """Whether a thing is an end that is there."""
        if isinstance(thing, tuple):
            return self.has_device(thing)
        return self.has_house(thing)

    def has_house(self, thing):
        """Whether a thing is the name of a house of this world."""
        return type(thing) is str and thing in self._houses

    def has_device(self, thing):
        """Whether a thing is (house, user, device) of this world."""
        if len(thing) != 3 or not all([type(part) is str for part in thing]):
            return False
        return thing in self._devices

    def connect(self, one, other):
        """Opens a line between two ends."""
        self._opened += 1
        mark = str(self._opened)
        for end, who in ((one, other), (other, one)):
            if isinstance(end, tuple):
                self._devices[end].begin()
            else:
                self._houses[end].attach(mark, "" if isinstance(who, tuple) else who)
        self._wires.append(Wire(one, other, mark))

    def let_fall(self, name, many):
        """Lets a house fall in this turn; whether it does not fall already."""
        if name in self._falls:
            return False
        self._falls[name] = many
        return True

    def now(self):
        """The turn."""
        return self._turn

    def device(self, house, user, name):
        """A device."""
        return self._devices[(house, user, name)]

    def store(self, house):
        """A branch of the store of a house."""
        return self._houses[house].store()

    def fates(self, house, user):
        """What became of the letters that a user of a house has sent."""
        return self._houses[house].fates(user)

    def waiting(self, house):
        """The entries that wait at a house."""
        return self._houses[house].waiting()

    def journal(self, house):
        """The text of a house's journal."""
        return "".join(self._journals[house])

    def shorten(self, house):
        """Closes the lines of a house, and makes it anew of its short text, its journal from now on."""
        self._close([wire for wire in self._wires if house in wire.ends])
        self._found(house, self._houses[house].short())

    def lines(self):
        """The open lines: pairs of ends."""
        return tuple([wire.ends for wire in self._wires])

    def text(self):
        """All of it on one line, as if all lines were closed."""
        houses = [(name, self.journal(name)) for name in sorted(self._houses)]
        devices = [(*key, self._devices[key].text()) for key in sorted(self._devices)]
        return show_plain(("world", self._turn, tuple(houses), tuple(devices)))


def world_of(text):
    """The world of a text that one gave."""
    _, turn, houses, devices = read_plain(text)
    world = World((), ())
    world._turn = turn
    for name, journal in houses:
        world._found(name, journal)
    for house, user, device, told in devices:
        world._devices[(house, user, device)] = device_of(told)
    return world


def befall(world, fate):
    """Takes a fate; whether it could be done."""
    if type(fate) is not tuple or len(fate) == 0 or type(fate[0]) is not str:
        return False
    act, length = FATES.get(fate[0], (None, 0))
    if act is None or len(fate) != length:
        return False
    return act(world, fate)


def let_do(world, fate):
    """Lets a device do a deed."""
    _, house, user, device, deed = fate
    if not world.has_device((house, user, device)):
        return False
    try:
        world.device(house, user, device).do(deed)
        return True
    except BadDeed:
        return False


def open_line(world, fate):
    """Opens a line."""
    _, one, other = fate
    if not world.is_pair(one, other) or world.wire_between(one, other) is not None:
        return False
    world.connect(one, other)
    return True


def close_line(world, fate):
    """Lets a line be closed in this turn."""
    _, one, other, many, others = fate
    if not is_natural(many) or not is_natural(others):
        return False
    wire = world.wire_between(one, other)
    if wire is None or wire.is_closing():
        return False
    wire.close(one, many, others)
    return True


def begin_fall(world, fate):
    """Lets a house fall in this turn."""
    _, house, many = fate
    if not world.has_house(house) or (many is not None and not is_natural(many)):
        return False
    return world.let_fall(house, many)


FATES = {
    "do": (let_do, 5),
    "open": (open_line, 3),
    "close": (close_line, 5),
    "fall": (begin_fall, 3),
}
