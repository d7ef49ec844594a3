"""c0: what the whole program promises, under cuts and falls by chance."""

import random
import unittest

from oncemail.filters import read_filter
from oncemail.journal import read_journal
from oncemail.ledger import Ledger
from oncemail.meaning import holds
from oncemail.queries import read_query
from oncemail.talk import say
from oncemail.threads import names_of, row_of
from oncemail.world import World, world_of
from tests.halls import Hall, mail

HOUSES = (
    ("elm", ("bo", "cy"), (("all", ("bo@elm", "ann@oak", "di@yew", "zoe@yew")), ("none", ()))),
    ("oak", ("ann", "ed"), (("them", ("ann@oak", "ed@oak", "all@elm", "x@fir")),)),
    ("yew", ("di",), ()),
)
DEVICES = (("elm", "bo", "a", 1), ("elm", "bo", "b", 3), ("elm", "cy", "a", 1), ("oak", "ann", "a", 1), ("oak", "ed", "a", 2),
           ("yew", "di", "a", 1))
ENDS = tuple(row[:3] for row in DEVICES)
NAMES = ("elm", "oak", "yew")
USERS = ("bo@elm", "cy@elm", "ann@oak", "ed@oak", "di@yew")
ADDRESSES = USERS + ("all@elm", "none@elm", "them@oak", "zoe@oak", "x@fir")
OPEN = tuple(("open", one, other) for one, other in (("elm", "oak"), ("elm", "yew"), ("yew", "oak"))) + tuple(
    ("open", end, end[0]) for end in ENDS)
QUIET = len(USERS) + 8


def any_rule(chance):
    """The text of a filter, and what it does: "refuse", "drop", or boxes with flags and a forward."""
    kind = chance.randrange(8)
    if kind < 2:
        word = ("refuse", "drop")[kind]
        return f"when all\n  {word}\n", word
    boxes = {}
    lines = []
    for name in chance.sample(("inbox", "work", "nobox"), chance.randrange(0, 3)):
        flags = tuple(sorted(chance.sample(("red", "blue"), chance.randrange(0, 3))))
        number = 3 if name == "work" else 0
        boxes[number] = tuple(sorted(set(boxes.get(number, ()) + flags)))
        lines.append(" ".join(("  file", name) + flags))
    forward = chance.choice(USERS + ("all@elm", "zoe@oak", None, None, None)) if lines else chance.choice(USERS)
    if forward is not None:
        lines.append(f"  forward {forward}")
    return "when all\n" + "".join(line + "\n" for line in lines), (boxes, forward)


def ways(rules, sender, addresses):
    """Where a letter is filed, {(user, number): flags}, and what may be told, {(teller, told): causes}."""
    groups = {f"{name}@{house[0]}": members for house in HOUSES for name, members in house[2]}
    filed, told = {}, {}
    waiting = [(sender, address, (), address) for address in dict.fromkeys(addresses)]
    while waiting:
        teller, address, trail, reader = waiting.pop()
        causes = told.setdefault((teller, address), set())
        if reader in groups:
            if trail:
                causes.add("group")
            elif not groups[reader]:
                causes.add("nobody")
            else:
                waiting += [(teller, address, (reader,), member) for member in groups[reader]]
        elif reader not in USERS:
            causes.add("unknown")
        elif rules[reader] == "refuse":
            causes.add("refused")
        elif rules[reader] != "drop":
            boxes, forward = rules[reader]
            if forward == reader or forward in trail:
                forward = None
                boxes = boxes or {0: ()}
            for number, flags in boxes.items():
                filed[(reader, number)] = flags
            if forward is not None:
                waiting.append((reader, forward, trail + (reader,), forward))
    return filed, {key: causes for key, causes in told.items() if causes}


class Runs(unittest.TestCase):
    def disturb(self, world, chance, opens=0.4, closes=0.2, falls=0.06):
        """Fates of lines and houses by chance."""
        fates = [fate for fate in OPEN if chance.random() < opens]
        for ends in world.lines():
            if chance.random() < closes:
                fates.append(("close", *ends, chance.choice((0, 5, 30, chance.randrange(400), 10 ** 6)),
                              chance.choice((0, 5, 30, chance.randrange(400), 10 ** 6))))
        if chance.random() < falls:
            fates.append(("fall", chance.choice(NAMES), chance.choice((None, 0, chance.randrange(300), chance.randrange(2000)))))
        return tuple(fates)

    def change(self, world, chance):
        """The world itself, with a house shortened, or read again from its text."""
        if chance.random() < 0.03:
            world.shorten(chance.choice(NAMES))
        return world_of(world.text()) if chance.random() < 0.02 else world

    def settle(self, world):
        """Opens all lines anew until all devices have met whole, and nothing waits."""
        for _ in range(3):
            world.turn(tuple(("close", *ends, 0, 0) for ends in world.lines()))
            world.turn(OPEN)
            for _ in range(QUIET):
                world.turn(())
            for name in NAMES:
                self.assertEqual(world.waiting(name), ())
        for end in ENDS:
            self.assertEqual(world.device(*end).state(), "whole")

    def check_devices(self, world, deeds):
        """One copy; each deed once in its order; the answers are those of the journal."""
        for end in ENDS:
            device, store, user = world.device(*end), world.store(end[0]), end[1]
            self.assertEqual(device.boxes(), store.boxes(user))
            self.assertEqual(device.unsettled(), ())
            for number, _, _, letters in store.boxes(user):
                if "r" in letters:
                    self.assertEqual(device.kept(number), ("copy", store.look(user, number)[2], store.records(user, number)))
                    self.assertEqual(device.shown(number), store.records(user, number))
        for name in NAMES:
            entries = read_journal(world.journal(name))[0]
            if entries[0][0] == "short":
                continue
            ledger = Ledger(*entries[0][1:])
            done = {}
            for entry in entries[1:]:
                answer = ledger.apply(entry)
                if entry[0] == "deed":
                    done.setdefault((name, entry[2], entry[3]), []).append((entry[5], entry[6], answer))
            for end in ENDS:
                if end[0] == name:
                    rows = done.get(end, [])
                    self.assertEqual([row[0] for row in rows], list(range(1, len(deeds[end]) + 1)))
                    self.assertEqual(len(rows), len(deeds[end]))
                    # No uids are said as no value is.
                    told = tuple((row[0], ("ok", None) if row[2] == ("ok", ()) else row[2]) for row in rows)
                    self.assertEqual(told, world.device(*end).answers())

    def do(self, world, deeds, end, deed):
        deeds[end].append(deed)
        return ("do", *end, deed)


class EachLetterOnce(Runs):
    def run_one(self, seed):
        chance = random.Random(seed)
        world = World(HOUSES, DEVICES)
        deeds = {end: [] for end in ENDS}
        rules = {}
        fates = []
        for end in ENDS:
            user = f"{end[1]}@{end[0]}"
            if user not in rules:
                text, rules[user] = any_rule(chance)
                read_filter(text)
                fates.append(self.do(world, deeds, end, ("make", "work")))
                fates.append(self.do(world, deeds, end, ("filter", text)))
        self.assertEqual(world.turn(tuple(fates)), ())
        self.settle(world)
        sent = {}
        for _ in range(60):
            fates = []
            for _ in range(chance.choice((0, 0, 1, 2))):
                end = chance.choice(ENDS)
                user = f"{end[1]}@{end[0]}"
                subject = f"n{len(sent)}"
                addresses = tuple(chance.choice(ADDRESSES) for _ in range(chance.randrange(1, 4)))
                fates.append(self.do(world, deeds, end, ("send", addresses, mail(user, subject))))
                sent[subject] = (user, addresses, ("letter", end[0], *end[1:], str(dict(zip(ENDS, DEVICES))[end][3]), str(len(deeds[end]))))
            passed = world.turn(tuple(fates) + self.disturb(world, chance))
            self.assertTrue(all(place >= len(fates) for place in passed))
            world = self.change(world, chance)
        self.settle(world)
        self.check_letters(world, rules, sent)
        self.check_devices(world, deeds)

    def check_letters(self, world, rules, sent):
        filed, told = {}, {}
        for subject, (user, addresses, name) in sent.items():
            boxes, causes = ways(rules, user, addresses)
            for (reader, number), flags in boxes.items():
                filed.setdefault((reader, number), {})[subject] = flags
            filed.setdefault((user, 2), {})[subject] = ()
            for (teller, address), words in causes.items():
                told.setdefault(teller, {})[(address, " ".join(name))] = words
        for user in USERS:
            name, _, house = user.partition("@")
            store = world.store(house)
            for number in (0, 2, 3):
                found = [(dict(row[5][1])["Subject"], row[3]) for row in store.records(name, number)]
                self.assertEqual(sorted(found), sorted(filed.get((user, number), {}).items()), (user, number))
            keys = []
            for row in store.records(name, 1):
                headers = dict(row[5][1])
                key = (headers["From"], row[5][2][1][0])
                self.assertEqual(headers["To"], user)
                self.assertIn(headers["Subject"].partition(": ")[2], told[user][key])
                keys.append(key)
            self.assertEqual(sorted(keys), sorted(told.get(user, {})))

    def test_by_chance(self):
        for seed in range(14):
            with self.subTest(seed=seed):
                self.run_one(seed)


class WantedBack(Runs):
    """Each way of a letter ends once: it has come, or it is told why not."""

    def run_one(self, seed):
        chance = random.Random(seed)
        world = World(HOUSES, DEVICES)
        deeds = {end: [] for end in ENDS}
        sent = {}
        states = {}
        for turn in range(170):
            fates = []
            end = chance.choice(ENDS)
            user = f"{end[1]}@{end[0]}"
            if turn < 60 and chance.random() < 0.5:
                addresses = tuple(chance.sample(USERS, 2))
                subject = f"n{len(sent)}"
                fates.append(self.do(world, deeds, end, ("send", addresses, mail(user, subject))))
                sent[(end, len(deeds[end]))] = (subject, addresses)
            elif sent and turn < 150 and chance.random() < 0.5:
                back = chance.choice(sorted(sent))
                life = dict(zip(ENDS, DEVICES))[back[0]][3]
                fates.append(self.do(world, deeds, back[0], ("back", life, back[1])))
            world.turn(tuple(fates) + self.disturb(world, chance, 0.05 if seed % 2 else 0.25))
            world = self.change(world, chance)
        self.settle(world)
        for (end, number), (subject, addresses) in sent.items():
            fates = {row[3]: row[4] for row in world.fates(end[0], end[1]) if (row[0], row[2]) == (end[2], number)}
            self.assertEqual(set(fates), set(addresses))
            for address, state in fates.items():
                name, _, house = address.partition("@")
                many = [dict(row[5][1])["Subject"] for row in world.store(house).records(name, 0)].count(subject)
                self.assertEqual(many, 1 if state == "over" else 0, (subject, address, state))
                states[state] = states.get(state, 0) + 1
        notices = sum(len(world.store(user.partition("@")[2]).records(user.partition("@")[0], 1)) for user in USERS)
        self.assertEqual(notices, sum(many for state, many in states.items() if state != "over"))
        self.check_devices(world, deeds)
        return states

    def test_by_chance(self):
        told = {}
        for seed in range(10):
            with self.subTest(seed=seed):
                for state, many in self.run_one(seed).items():
                    told[state] = told.get(state, 0) + many
        self.assertEqual(sorted(told), ["over", "unreached", "withdrawn"])


class OneCopy(Runs):
    def any_deed(self, chance, world, end):
        device = world.device(*end)
        boxes = [row[0] for row in device.boxes()] or [0]
        number = chance.choice(boxes + [0, 3])
        shown = device.shown(number) or ()
        uids = sorted({record[1] for record in shown})
        uids = tuple(sorted(chance.sample(uids, min(len(uids), chance.randrange(1, 4)))))
        name = chance.choice(("work", "home", "w2", "w3"))
        other = chance.choice(("bo", "cy", "ann", "ed", "di"))
        text = mail(f"{end[1]}@{end[0]}", f"n{chance.randrange(10 ** 6)}", chance.choice(("lamp", "two words", "")))
        return chance.choice((
            ("make", name), ("unmake", number), ("rename", number, name), ("grant", number, other, chance.choice(("", "l", "lr", "a", "ri", "se"))),
            ("put", number, chance.choice(((), ("red",))), text), ("put", number, (), text),
            ("flag", number, uids, chance.choice(("add", "drop", "set")), ("blue", "red")), ("copy", number, uids, chance.choice(boxes)),
            ("move", number, uids, chance.choice(boxes)), ("take", number, uids), ("leave", number),
            ("filter", chance.choice(("", "when subject lamp\n  file work\n", "when all\n  forward bo@elm\n  keep\n"))),
            ("send", (chance.choice(ADDRESSES),), text), ("back", 1, chance.randrange(1, 9))))

    def run_one(self, seed):
        chance = random.Random(seed)
        world = World(HOUSES, DEVICES)
        deeds = {end: [] for end in ENDS}
        for turn in range(120):
            fates = []
            for end in ENDS:
                if chance.random() < 0.25 and len(world.device(*end).unsettled()) < 95:
                    fates.append(self.do(world, deeds, end, self.any_deed(chance, world, end)))
            passed = world.turn(tuple(fates) + self.disturb(world, chance))
            self.assertTrue(all(place >= len(fates) for place in passed))
            # A house that has fallen or was shortened is the one that its journal tells.
            world = world_of(world.text()) if chance.random() < 0.02 else world
        self.settle(world)
        self.check_devices(world, deeds)
        refused = [answer for end in ENDS for _, answer in world.device(*end).answers() if answer[0] == "no"]
        self.assertGreater(len(refused), 5)
        return world

    def test_by_chance(self):
        for seed in range(8):
            with self.subTest(seed=seed):
                self.check_search(self.run_one(seed))

    def check_search(self, world):
        """Search is its meaning: on a line and on a device, as the records tell it."""
        queries = [read_query(text) for text in ("text lamp", "flag red", "subject n1 or not flag blue", "since 40 and text two", "all")]
        lines = {}
        for end in ENDS:
            store, device = world.store(end[0]), world.device(*end)
            for number, _, _, letters in store.boxes(end[1]):
                if "r" not in letters:
                    continue
                records = store.records(end[1], number)
                rows = tuple(row_of(row[1], row[5]) for row in records)
                for query in queries:
                    wanted = tuple(row[1] for row in records if holds(query, row, names_of(rows, row[1])))
                    self.assertEqual(device.search(number, query), wanted)
                    lines[end] = lines.get(end, 0) + 1
        self.assertGreater(sum(lines.values()), 50)


class Quiet(Runs):
    def test_nothing_waits_behind_as_many_turns_as_there_are_users_and_eight(self):
        # A chain of forwards through all users, in the longest way between the houses.
        chain = ("bo@elm", "ann@oak", "cy@elm", "ed@oak", "di@yew", "zoe@oak")
        for opened in (False, True):
            world = World(HOUSES, DEVICES)
            fates = []
            for user, target in zip(chain, chain[1:]):
                name, _, house = user.partition("@")
                end = next(one for one in ENDS if one[:2] == (house, name))
                fates.append(("do", *end, ("filter", f"when all\n  forward {target}\n")))
            world.turn(tuple(fates))
            self.settle(world)
            di = ("yew", "di", "a")
            world.turn((("do", *di, ("send", ("bo@elm",), mail("di@yew"))), ("close", di, "yew", 9, 9)) + (
                () if opened else tuple(("close", *ends, 9, 9) for ends in world.lines() if isinstance(ends[0], str))))
            world.turn((("open", di, "yew"),))
            for _ in range(3):
                world.turn(())
            self.assertEqual(len(world.fates("yew", "di")), 1)
            world.turn(OPEN)
            for _ in range(QUIET):
                world.turn(())
            for name in NAMES:
                self.assertEqual(world.waiting(name), ())
            # Each forward came to the next one; the last way is told to him who forwarded it.
            self.assertEqual(len(world.store("yew").records("di", 1)), 1)
            self.assertEqual([row[4] for row in world.fates("yew", "di")], ["over"])


class NotHis(unittest.TestCase):
    """Bo hears the same, whatever ann and cy do in what he may not see."""

    def setUp(self):
        self.hall = Hall(groups=(("all", ("ann@oak", "cy@oak")),))
        self.numbers = {"a": 0, "b": 0, "c": 0}
        for mark, user in (("a", "ann"), ("b", "bo"), ("c", "cy")):
            self.hall.hello(mark, user)
        # Work is read by bo, into the other one he may put letters; what is more he does not see.
        self.hall.turn(a="".join(self.deed("a", words) for words in (
            "make work", "grant 3 bo lr", "make secret", "grant 4 bo i")))

    def deed(self, mark, words, literal=None):
        self.numbers[mark] += 1
        return say(["do", str(self.numbers[mark]), *words.split()], literal)

    def hidden(self, secret):
        """What ann and cy say that bo must not notice."""
        box = secret.choice(("0", "1", "5", "6"))
        name = f"x{secret.randrange(30)}"
        of_ann = ((f"put {box} -", mail()), (f"take {box} 1:2", None), (f"make {name}", None), (f"grant {box} cy lrs", None),
                  ("send cy@oak,x@fir", mail()), (f"unmake {box}", None), ("rename 5 " + name, None))
        of_cy = ((f"make {name}", None), (f"put {box} -", mail("cy@oak")), ("send all@oak,eve@elm", mail("cy@oak")),
                 ("filter", "when all\n  drop\n"), ("back 1 2", None))
        return {mark: "".join(self.deed(mark, *one) for one in secret.sample(rows, secret.randrange(0, 4)))
                for mark, rows in (("a", of_ann), ("c", of_cy))}

    def told(self, seed, hidden):
        """What bo hears beside what is hidden from him."""
        self.setUp()
        chance, secret = random.Random(seed), random.Random(hidden)
        questions = ("boxes", "look 3", "look 4", "since 3 0", "since 4 0", "watch 3\nwatch 0\nwatch 4", "fates", "find 3 all",
                     "threads 3", "letter 3 1", "letter 4 1", "look 5", "rules")
        heard = []
        for _ in range(40):
            said = self.hidden(secret)
            if chance.random() < 0.5:
                said["a"] += self.deed("a", *chance.choice((("put 3 x", mail()), ("flag 3 1 add y", None), ("take 3 2", None))))
            said["b"] = "".join(chance.choice(questions) + "\n" for _ in range(3)) + self.deed("b", *chance.choice((
                ("put 0 -", mail("bo@oak")), ("take 3 1", None), ("copy 3 1 0", None), ("leave 7", None), ("rename 4 q", None),
                ("grant 3 cy l", None), ("flag 5 1 add x", None), ("make home", None))))
            heard.append(self.hall.turn(**said).get("b", ""))
        return heard

    def test_what_a_user_hears_does_not_hang_on_it(self):
        for seed in range(6):
            wanted = self.told(seed, 1)
            self.assertTrue(any("kept" in text for text in wanted))
            self.assertTrue(any("news 3" in text for text in wanted))
            for hidden in range(2, 6):
                self.assertEqual(self.told(seed, hidden), wanted)


if __name__ == "__main__":
    unittest.main()
