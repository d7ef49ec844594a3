"""A store as s1 to s10 tell it, point by point and without any care for time."""

from oncemail.errors import BadFilter, BadLetter
from oncemail.filters import read_filter
from oncemail.letters import read_letter, size_of
from oncemail.names import is_deed

ORDER = ("name", "text", "many", "none", "rights", "uid", "kept", "there", "full")
STORE_DEEDS = ("make", "unmake", "rename", "grant", "put", "flag", "copy", "move", "take", "leave", "filter")


class Held:
    """A box with all that was ever gone of it."""

    def __init__(self, owner, number, name):
        self.owner = owner
        self.number = number
        self.name = name
        self.rights = {}
        self.next = 1
        self.change = 0
        self.records = {}
        self.gone = []
        self.unmade = False

    def value(self):
        pairs = sorted(self.gone, key=lambda pair: (-pair[1], -pair[0]))
        floor = max([0] + [pair[1] for pair in pairs[200:]])
        kept = tuple(("kept", uid, *self.records[uid]) for uid in sorted(self.records))
        return ("box", self.next, self.change, floor, kept, tuple(sorted(pairs[:200])))

    def room(self, letters):
        many = len(self.records) + len(letters)
        signs = sum(size_of(row[3]) for row in self.records.values()) + sum(map(size_of, letters))
        return many <= 1000 and signs <= 1000000

    def letters(self, user):
        if self.unmade:
            return ""
        return "lrsiea" if user == self.owner else self.rights.get(user, "")

    def put(self, rows):
        self.change += 1
        uids = []
        for flags, turn, letter in rows:
            self.records[self.next] = (self.change, flags, turn, letter)
            uids.append(self.next)
            self.next += 1
        return tuple(uids)

    def take(self, uids):
        if uids:
            self.change += 1
        for uid in uids:
            del self.records[uid]
            self.gone.append((uid, self.change))


class Oracle:
    def __init__(self, users):
        self.users = users
        self.filters = {user: "" for user in users}
        self.numbers = {user: [] for user in users}
        for user in users:
            for name in ("inbox", "notices", "sent"):
                self.new_box(user, name)

    def new_box(self, user, name):
        box = Held(user, len(self.numbers[user]), name)
        self.numbers[user].append(box)
        return box.number

    def there(self, user, number):
        if number is None or not 0 <= number < len(self.numbers[user]):
            return None
        box = self.numbers[user][number]
        return box if "l" in box.letters(user) else None

    def own(self, user):
        return [box for box in self.numbers[user] if box.owner == user and not box.unmade]

    def do(self, turn, user, deed, values):
        due, act = self.judge(turn, user, deed, dict(values))
        for reason in ORDER:
            if reason in due:
                return ("no", reason), due
        return ("ok", act()), due

    def judge(self, turn, user, deed, values):
        """All reasons that are due, and what does the deed."""
        if not is_deed(deed) or deed[0] not in STORE_DEEDS:
            return {"name"}, None
        kind = deed[0]
        due = set()
        if kind == "filter":
            try:
                read_filter(deed[1])
            except BadFilter:
                if deed[1] != "":
                    due.add("text")
            return due, lambda: self.filters.update({user: deed[1]})
        if kind == "make":
            if len(self.own(user)) >= 60:
                due.add("many")
            if deed[1] in [box.name for box in self.own(user)]:
                due.add("there")
            return due, lambda: self.new_box(user, deed[1])
        number = deed[1]
        if number < 0:
            number = values[-number][1] if values.get(-number, ("",))[0] == "box" else None
        box = self.there(user, number)
        if box is None:
            due.add("none")
        letters = "" if box is None else box.letters(user)
        if kind in ("unmake", "rename", "leave"):
            return self.judge_own(due, box, user, number, deed, kind)
        if kind == "grant":
            return self.judge_grant(due, box, user, deed, letters)
        if kind == "put":
            return self.judge_put(due, box, turn, deed, letters)
        uids = set()
        for uid in deed[2]:
            if uid < 0:
                value = values.get(-uid)
                uid = value[2] if value is not None and value[0] == "uid" and value[1] == number else 10 ** 15
            uids.add(uid)
        uids = sorted(uids)
        if box is not None and any(uid not in box.records for uid in uids):
            due.add("uid")
        if kind == "flag":
            return self.judge_flag(due, box, deed, uids, letters)
        if kind == "take":
            if box is not None and "e" not in letters:
                due.add("rights")

            def take():
                box.take(uids)
                return box.change
            return due, take
        goal = deed[3]
        if goal < 0:
            goal = values[-goal][1] if values.get(-goal, ("",))[0] == "box" else None
        return self.judge_copy(due, box, self.there(user, goal), user, kind, uids)

    def judge_own(self, due, box, user, number, deed, kind):
        if box is None:
            if kind == "rename" and deed[2] in [held.name for held in self.own(user)]:
                due.add("there")
            return due, None
        if kind == "leave":
            if box.owner == user:
                due.add("kept")
            return due, lambda: box.rights.pop(user) and None
        if box.owner != user:
            due.add("rights")
        if number in (0, 1, 2):
            due.add("kept")
        if kind == "rename" and deed[2] in [held.name for held in self.own(user)]:
            due.add("there")

        def rename():
            box.name = deed[2]

        def unmake():
            box.unmade = True
        return due, rename if kind == "rename" else unmake

    def judge_grant(self, due, box, user, deed, letters):
        other = deed[2]
        if other not in self.users:
            due.add("none")
        if box is not None and "a" not in letters:
            due.add("rights")
        if box is not None and other == box.owner:
            due.add("kept")

        def grant():
            told = set(deed[3])
            if "a" in told:
                told = set("lrsiea")
            if told & set("se"):
                told.add("r")
            if told:
                told.add("l")
            box.rights[other] = "".join(letter for letter in "lrsiea" if letter in told)
            if told and box not in self.numbers[other]:
                self.numbers[other].append(box)
        return due, grant

    def judge_put(self, due, box, turn, deed, letters):
        letter = None
        try:
            letter = read_letter(deed[3])
        except BadLetter:
            due.add("text")
        if len(deed[2]) > 8:
            due.add("many")
        if box is not None:
            if "i" not in letters or (deed[2] and "s" not in letters):
                due.add("rights")
            if letter is not None and not box.room([letter]):
                due.add("full")

        def put():
            uid = box.put([(deed[2], turn, letter)])[0]
            return uid if "r" in letters else None
        return due, put

    def judge_flag(self, due, box, deed, uids, letters):
        _, _, _, mode, flags = deed
        if len(flags) > 8:
            due.add("many")
        if box is None:
            return due, None
        if "s" not in letters:
            due.add("rights")
        new = {}
        for uid in uids:
            if uid in box.records:
                present = set(box.records[uid][1])
                told = {"add": present | set(flags), "drop": present - set(flags), "set": set(flags)}[mode]
                if len(told) > 8:
                    due.add("full")
                if told != present:
                    new[uid] = tuple(sorted(told))

        def flag():
            if new:
                box.change += 1
            for uid, told in new.items():
                box.records[uid] = (box.change, told, *box.records[uid][2:])
            return box.change
        return due, flag

    def judge_copy(self, due, box, goal, user, kind, uids):
        if goal is None:
            due.add("none")
        needs = {"r", "e"} if kind == "move" else {"r"}
        if box is not None and not needs <= set(box.letters(user)):
            due.add("rights")
        if goal is not None and "i" not in goal.letters(user):
            due.add("rights")
        if kind == "move" and box is not None and box is goal:
            due.add("there")
        if box is None or goal is None:
            return due, None
        letters = [box.records[uid][3] for uid in uids if uid in box.records]
        if letters and not goal.room(letters):
            due.add("full")

        def copy():
            with_flags = "s" in goal.letters(user)
            rows = [(box.records[uid][1] if with_flags else (), *box.records[uid][2:]) for uid in uids]
            found = goal.put(rows) if rows else ()
            if kind == "move":
                box.take(uids)
            return found if "r" in goal.letters(user) else None
        return due, copy

    def file(self, turn, user, pairs, letter):
        boxes = [(self.numbers[user][number], flags) for number, flags in pairs]
        if not all(box.room([letter]) for box, _ in boxes):
            return False
        for box, flags in boxes:
            box.put([(flags, turn, letter)])
        return True

    def list(self, user):
        return tuple((number, box.owner, box.name, box.letters(user))
                     for number, box in enumerate(self.numbers[user]) if self.there(user, number))

    def state(self):
        rows = []
        for user in self.users:
            numbers = tuple((box.owner, box.number) for box in self.numbers[user])
            boxes = []
            for box in self.own(user):
                rights = tuple((other, box.rights[other]) for other in sorted(box.rights) if box.rights[other])
                boxes.append((box.number, box.name, box.value(), rights))
            rows.append((user, self.filters[user], numbers, tuple(boxes)))
        return ("store", tuple(rows))
