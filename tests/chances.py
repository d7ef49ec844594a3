"""Deeds by chance for a device, and meetings that are cut by chance."""

from oncemail.letters import write_letter


class Helper:
    def any_deed(self, chance, device, copies):
        boxes = [row[0] for row in device.boxes()]
        number = chance.choice(boxes)
        # What copies show is meant by no deed here, though the house may know it by -k.
        puts = [-k for k, deed, _ in device.unsettled() if deed[0] == "put"]
        uids = sorted({record[1] for record in device.shown(number) if record[1] > 0 or record[1] in puts})
        uids = tuple(sorted(chance.sample(uids, min(len(uids), chance.randrange(0, 3)))))
        flags = tuple(sorted(chance.sample("abcd", chance.randrange(0, 3))))
        kinds = ("put", "put", "put", "flag", "flag", "take", "make", "rename", "unmake") + copies
        kind = chance.choice(kinds)
        name = chance.choice(("w", "v", "u", "t")) + str(chance.randrange(9))
        return {
            "put": ("put", number, flags, f"Subject: n{chance.randrange(10 ** 6)}\n\n"),
            "flag": ("flag", number, uids, chance.choice(("add", "drop", "set")), flags),
            "take": ("take", number, uids),
            "copy": ("copy", number, uids, chance.choice(boxes)),
            "move": ("move", number, uids, chance.choice(boxes)),
            "make": ("make", name),
            "rename": ("rename", number, name),
            "unmake": ("unmake", number),
        }[kind]

    def told(self, device):
        """The names of the boxes, each with the flags and subjects of its records."""
        told = {}
        for number, _, name, _ in device.boxes():
            told[name] = sorted((record[-3], write_letter(record[-1])) for record in device.shown(number))
        return told

    def hall_told(self, hall):
        told = {}
        for number, _, name, _ in hall.house.store().boxes("ann"):
            told[name] = sorted((row[3], write_letter(row[5])) for row in hall.house.store().records("ann", number))
        return told

    def meet(self, hall, device, chance=None):
        """A meeting, perhaps cut somewhere."""
        hall.open("a")
        device.begin()
        while device.state() == "meets":
            told = hall.turn(a=device.say()).get("a", "")
            if chance is not None and chance.random() < 0.15:
                device.hear(told[:chance.randrange(0, len(told) + 1)])
                break
            device.hear(told)
        device.leave()
        hall.house.detach("a")
