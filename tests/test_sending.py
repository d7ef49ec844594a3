"""h5, h10: sending letters, and what became of them."""

import unittest

from oncemail.letters import read_letter
from tests.halls import Hall, entry, long_mail, mail

MANY = ",".join(f"u{n}@fir" for n in range(30))


class Sending(unittest.TestCase):
    def setUp(self):
        self.hall = Hall()
        self.hall.hello("a", "ann")
        self.number = 0

    def send(self, addresses, text=None):
        self.number += 1
        return self.hall.send("a", self.number, addresses, mail() if text is None else text)

    def test_each_reason(self):
        text = "x" * 20
        for addresses, told, reason in (
                ("-", None, "name"), ("ann", None, "name"), ("bo@oak,ann", None, "name"), ("@oak", None, "name"),
                ("Ann@oak", None, "name"), ("bo@oak,", None, "name"), ("<bo@oak>", None, "name"),
                ("bo@oak", text, "text"), ("bo@oak", "", "text"), ("bo@oak", "A: b\n\n" + "x" * 501, "text"),
                ("bo@oak", mail("bo@oak"), "from"), ("bo@oak", "A: b\n\n", "from"), ("bo@oak", mail("ann@elm"), "from"),
                ("bo@oak", "From: bo@oak\nFrom: ann@oak\n\n", "from"), ("bo@oak", "From: ann\n\n", "from"),
                (MANY + ",bo@oak", None, "many"), (",".join(["bo@oak"] * 31), None, "many")):
            before = self.hall.house.store().state()
            self.assertEqual(self.send(addresses, told), "no " + reason, (addresses, told))
            # A letter that is refused does nothing but that its refusal is kept.
            self.assertEqual(self.hall.house.store().state(), before)
            self.assertEqual((self.hall.house.waiting(), self.hall.house.fates("ann")), ((), ()))
        self.hall.again()

    def fill(self):
        text = long_mail(20000, "From: ann@oak")
        self.number = 49
        self.hall.fill("a", 1, 2, 49)
        self.assertEqual(self.send("u@fir", long_mail(19900, "From: ann@oak")), "ok -")
        return text

    def test_full(self):
        text = self.fill()
        before = self.hall.house.fates("ann")
        self.assertEqual(self.send("bo@oak", text), "no full")
        self.assertEqual(self.hall.letters("bo", 0), [])
        self.assertEqual(self.hall.house.fates("ann"), before)
        self.assertEqual(self.send("bo@oak"), "ok -")

    def test_two_reasons_at_once(self):
        text = self.fill()
        wrong = {"name": "ann", "text": "no letter", "from": mail("bo@oak"), "many": MANY + ",bo@oak"}
        for addresses, told, reason in ((wrong["name"], wrong["text"], "name"), (wrong["name"], wrong["from"], "name"),
                                        (wrong["many"] + ",x", None, "name"), (wrong["many"], wrong["text"], "text"),
                                        (wrong["many"], wrong["from"], "from"), ("ann", text, "name"),
                                        ("bo@oak", text[:19000] + "x" * 501, "text"),
                                        ("bo@oak", text.replace("ann@oak", "bo@oak"), "from"), (MANY + ",a@b", text, "many")):
            self.assertEqual(self.send(addresses, told), "no " + reason)

    def test_addresses_that_stand_twice(self):
        self.assertEqual(self.send("bo@oak,eve@elm,bo@oak,cy@oak,eve@elm"), "ok -")
        self.assertEqual([row[3] for row in self.hall.house.fates("ann")], ["bo@oak", "eve@elm", "cy@oak"])
        self.assertEqual(len(self.hall.letters("bo", 0)), 1)
        self.assertEqual(len(self.hall.house.waiting()), 1)
        self.assertEqual(self.send(",".join(["cy@oak"] * 30)), "ok -")
        self.assertEqual(len(self.hall.letters("cy", 0)), 2)
        self.hall.again()

    def test_thirty_addresses(self):
        self.assertEqual(self.send(MANY), "ok -")
        self.assertEqual([row[4] for row in self.hall.house.fates("ann")], ["unknown"] * 30)

    def test_what_is_done(self):
        text = mail()
        self.hall.turn(turn=4)
        self.assertEqual(self.send("bo@oak,eve@elm", text), "ok -")
        letter = read_letter(text)
        store = self.hall.house.store()
        self.assertEqual(store.records("ann", 2), (("kept", 1, 1, (), 5, letter),))
        self.assertEqual(store.records("bo", 0), (("kept", 1, 1, (), 5, letter),))
        name = ("name", "oak", "ann", "pad", 1, 1)
        self.assertEqual(self.hall.house.waiting(), (
            ("elm", 0, 5, False, False, entry("eve@elm", text, "ann@oak", name=name)),))
        self.assertEqual(self.hall.new[-1], ("deed", 5, "ann", "pad", 1, 1, ("send", ("bo@oak", "eve@elm"), text)))

    def test_the_writer_may_be_shown(self):
        for text in ("From: Ann <ann@oak>\n\n", "from:  ann@oak\nFrom: bo@oak\n\n", "A: b\nFrom: ann@oak"):
            self.assertEqual(self.send("bo@oak", text), "ok -")

    def test_the_order_of_deeds_and_numbers(self):
        self.assertEqual(self.hall.send("a", 5, "what", "x"), "no order")
        self.assertEqual(self.send("bo@oak"), "ok -")
        self.assertEqual(self.hall.send("a", 1, "cy@oak", mail()), "ok -")
        self.assertEqual(self.hall.letters("cy", 0), [])
        self.assertEqual(len(self.hall.letters("ann", 2)), 1)


class Fates(unittest.TestCase):
    def test_each_state(self):
        hall = Hall(groups=(("all", ("ring@oak",)), ("none", ()), ("ring", ("all@oak",))))
        hall.hello("a", "ann")
        hall.hello("b", "bo")
        hall.hello("c", "cy")
        hall.do("b", 1, "filter", "when all\n  refuse\n")
        hall.do("c", 1, "filter", "when all\n  drop\n")
        hall.send("a", 1, "ann@oak,bo@oak,cy@oak,none@oak,all@oak,zoe@oak,x@fir,eve@elm", mail())
        wanted = [("ann@oak", "over"), ("bo@oak", "refused"), ("cy@oak", "over"), ("none@oak", "nobody"),
                  ("all@oak", "group"), ("zoe@oak", "unknown"), ("x@fir", "unknown"), ("eve@elm", "waits")]
        self.assertEqual([row[3:] for row in hall.house.fates("ann")], wanted)
        self.assertEqual([row[:3] for row in hall.house.fates("ann")], [("pad", 1, 1)] * 8)
        for house in hall.again():
            self.assertEqual(house.fates("ann"), hall.house.fates("ann"))
        hall.do("a", 2, "back 1 1")
        self.assertEqual(hall.house.fates("ann")[-1][3:], ("eve@elm", "withdrawn"))

    def test_forwarded_letters_are_no_fate_of_the_sender(self):
        hall = Hall()
        hall.hello("a", "ann")
        hall.hello("b", "bo")
        hall.do("b", 1, "filter", "when all\n  forward eve@elm\n")
        hall.send("a", 1, "bo@oak", mail())
        # The entry waits with bo as its teller.
        self.assertEqual([row[5][2:4] for row in hall.house.waiting()], [("bo@oak", "eve@elm")])
        self.assertEqual([row[4] for row in hall.house.fates("ann")], ["over"])
        self.assertEqual(hall.house.fates("bo"), ())

    def test_letters_by_device_life_and_number(self):
        hall = Hall()
        hall.hello("a", "ann", "pad", 2)
        hall.hello("b", "ann", "air", 10)
        for number in range(1, 12):
            hall.send("a", number, "bo@oak", mail())
        hall.send("b", 1, "bo@oak", mail())
        hall.hello("c", "ann", "air", 11)
        hall.send("c", 1, "bo@oak", mail())
        self.assertEqual([row[:3] for row in hall.house.fates("ann")], [("air", 10, 1), ("air", 11, 1)] + [
            ("pad", 2, number) for number in range(1, 12)])
        hall.again()


if __name__ == "__main__":
    unittest.main()
