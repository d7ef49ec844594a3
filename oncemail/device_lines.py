"""The lines of devices to their house (k4, k5, h4)."""

from oncemail.answers import answer_of, row
from oncemail.commands import deed_of
from oncemail.lines import Line
from oncemail.names import is_device
from oncemail.talk import read_box, read_number, show_value

MOST_LITERAL = 20000
MOST_DEVICES = 4


class DeviceLine(Line):
    """A line to a device, which says at first who it is."""

    def __init__(self, scribe):
        super().__init__("", MOST_LITERAL, scribe)
        # Who said hello; life is 0 until it was answered by ok.
        self._user = ""
        self._device = ""
        self._life = 0
        # The change of each watched box that was told last.
        self._watched = {}

    def _does(self, words, literal):
        """Whether a command is none that is a fault; it is done then."""
        answer = self._answer(words, literal)
        if answer is None:
            return False
        self._said.append(answer)
        return True

    def _answer(self, words, literal):
        """The signs of the answer to a command, or None if it is a fault."""
        kind = words[0] if len(words) > 0 else ""
        if kind == "do" and self._life > 0:
            return self._do(words, literal)
        if literal is not None:
            return None
        if words == ("bye",):
            self._ended = True
            return row("ok")
        if kind == "hello":
            return self._hello(words)
        if self._life == 0:
            return None
        if kind == "watch":
            return self._watch(words)
        return answer_of(self._ledger, self._user, words)

    def _hello(self, words):
        """The answer to hello."""
        if len(words) != 5 or self._life > 0:
            return None
        _, user, device, life, heard = words
        life = read_number(life)
        heard = read_number(heard)
        if life is None or life == 0 or heard is None:
            return None
        reason = self._refusal(user, device, life, heard)
        if reason != "":
            return row("no", reason)
        self._user = user
        self._device = device
        self._life = life
        devices = self._ledger.devices
        if devices.is_news(user, device, life, heard):
            self._scribe.write("met", user, device, life, heard)
        known = devices.known(user, device)
        rows = []
        # What this hello tells as heard is not among them any more.
        for number in sorted(known.answers):
            told = answer_words(known.answers[number][0])
            rows.append(row("did", number, *told))
        rows.append(row("ok", known.last))
        return "".join(rows)

    def _refusal(self, user, device, life, heard):
        """The first reason for which a hello is refused, or an empty text."""
        devices = self._ledger.devices
        # k5 has a row of reasons of its own for hello; that of c9 is for deeds.
        if not is_device(device):
            return "name"
        if user not in self._ledger.users:
            return "none"
        if devices.others_of(user, device) >= MOST_DEVICES:
            return "many"
        known = devices.known(user, device)
        if known is not None and known.life > life:
            return "order"
        return "order" if heard > devices.last_of(user, device, life) else ""

    def _do(self, words, literal):
        """The answer to a deed."""
        number = read_number(words[1]) if len(words) > 1 else None
        deed = deed_of(words[2:], literal)
        if number is None or deed is None:
            return None
        known = self._ledger.devices.known(self._user, self._device)
        if self._life < known.life or not known.heard < number <= known.last + 1:
            return row("no", "order")
        if number <= known.last:
            answer = known.answers[number][0]
        else:
            answer = self._scribe.write("deed", self._user, self._device, self._life, number, deed)
        told = answer_words(answer)
        return row(*told)

    def _watch(self, words):
        """The answer to watch."""
        number = read_box(words[1]) if len(words) == 2 else None
        if number is None:
            return None
        change = self._change_of(number)
        if isinstance(change, str):
            return row("no", change)
        self._watched[number] = change
        return row("ok", change)

    def _change_of(self, number):
        """The change of a box, or the reason for which it is not to be read."""
        found = self._ledger.store.look(self._user, number)
        if found[0] == "no":
            return found[1]
        return found[2] if found[0] == "seen" else "rights"

    def tell_news(self):
        """Says what is other in the boxes that are watched."""
        if self._ended:
            return
        for number in sorted(self._watched):
            change = self._change_of(number)
            if isinstance(change, str):
                del self._watched[number]
                self._said.append(row("lost", number))
            elif change != self._watched[number]:
                self._watched[number] = change
                self._said.append(row("news", number, change))


def answer_words(answer):
    """The words of the answer of a deed."""
    if answer[0] == "no":
        return answer
    return ("ok", show_value(answer[1]))
