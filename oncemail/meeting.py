"""A meeting of a device with its house, step by step (d3, d4)."""

from oncemail.letters import letter_or_none
from oncemail.replies import answer_of, box_row, gone_uid, kept_row, last_of, reason_of, since_end
from oncemail.talk import Listener, read_number, say

MOST_LITERAL = 20000


class Meeting:
    """What is said and heard on one line; state is "meets", "whole" or "refused"."""

    def __init__(self, hello, deeds, copies):
        self.state = "meets"
        self._deeds = deeds
        self._copies = copies
        self._listener = Listener(MOST_LITERAL)
        self._said = []
        # The commands that were said, kinds with what they are about, and the place of the first
        # one that is not answered.
        self._asked = []
        self._at = 0
        # The rows that were heard ahead of the next answer.
        self._rows = []
        # Only deeds that were done ahead of the opening are said.
        self._last = deeds.last
        self._ask(("hello",), hello, None)

    def _ask(self, about, words, literal):
        """Says a command."""
        self._asked.append(about)
        self._said.append(say([str(word) for word in words], literal))

    def say(self):
        """What is to be said."""
        text = "".join(self._said)
        self._said = []
        return text

    def hear(self, text):
        """Hears signs."""
        if self.state != "meets":
            return
        for words, literal in self._listener.hear(text):
            if self.state == "meets" and not self._take(words, literal):
                self.state = "refused"
        if self._listener.faulty() and self.state == "meets":
            self.state = "refused"

    def _take(self, words, literal):
        """Takes a command that was heard; whether it was one that is awaited."""
        kind = self._asked[self._at][0]
        if len(words) == 0 or (literal is not None and kind != "letter"):
            return False
        if kind == "hello":
            return self._take_hello(words)
        if kind == "do":
            return self._take_do(words)
        if kind == "boxes":
            return self._take_boxes(words)
        if kind == "since":
            return self._take_since(words)
        if kind == "letter":
            return self._take_letter(words, literal)
        if words == ("ok",):
            self.state = "whole"
            return True
        return False

    def _answered(self):
        """Goes on to the next command when one was answered; its rows are done with."""
        self._at += 1
        self._rows = []

    def _refuse(self):
        """Ends the meeting for a refusal of the house."""
        self._ask(("bye",), ("bye",), None)
        self.state = "refused"
        return True

    def _take_hello(self, words):
        """Takes a row of hello or its answer."""
        if words[0] == "did":
            number = read_number(words[1]) if len(words) > 1 else None
            kind = self._deeds.kind_of(number)
            answer = answer_of(kind, words[2:])
            self._rows.append((number, answer))
            return number is not None and answer is not None
        if reason_of(words) is not None:
            return self._refuse()
        last = last_of(words)
        if last is None or not self._deeds.heard <= last <= self._deeds.last:
            return False
        if [row[0] for row in self._rows] != list(range(self._deeds.heard + 1, last + 1)):
            return False
        for number, answer in self._rows:
            self._deeds.hear_answer(number, answer)
        self._answered()
        for number in self._deeds.waiting(self._last):
            words, literal = self._deeds.said(number)
            self._ask(("do", number), words, literal)
        self._ask(("boxes",), ("boxes",), None)
        return True

    def _take_do(self, words):
        """Takes the answer of a deed."""
        number = self._asked[self._at][1]
        answer = answer_of(self._deeds.kind_of(number), words)
        if answer is None:
            return False
        self._deeds.hear_answer(number, answer)
        self._answered()
        return True

    def _take_boxes(self, words):
        """Takes a row of the list or its answer."""
        row = box_row(words)
        if row is not None:
            self._rows.append(row)
            return True
        if reason_of(words) is not None:
            return self._refuse()
        if last_of(words) is None:
            return False
        self._copies.hear_list(tuple(self._rows))
        self._deeds.hear_list(self._copies.readable())
        self._answered()
        for number in self._copies.readable():
            self._ask(("since", number), ("since", number, self._copies.change_of(number)), None)
        self._go_on()
        return True

    def _take_since(self, words):
        """Takes a row of what came into a box or its answer."""
        row = kept_row(words)
        if row is None:
            row = gone_uid(words)
        if row is not None:
            self._rows.append(row)
            return True
        number = self._asked[self._at][1]
        end = since_end(words)
        if end is not None:
            told = [row for row in self._rows if not isinstance(row, int)]
            lost = None if end[0] == "all" else [row for row in self._rows if isinstance(row, int)]
            self._copies.hear_since(number, end[1], told, lost, self._deeds.letters_put(number))
            self._deeds.hear_since(number)
        elif reason_of(words) is not None:
            self._copies.forget(number)
        else:
            return False
        self._answered()
        self._go_on()
        return True

    def _take_letter(self, words, literal):
        """Takes a letter or a refusal."""
        _, number, uid = self._asked[self._at]
        reason = reason_of(words) if literal is None else None
        if reason == "uid":
            self._copies.drop(number, uid)
        elif reason is not None:
            self._copies.forget(number)
        else:
            letter = letter_or_none(literal) if literal is not None and words == ("ok",) else None
            if letter is None:
                return False
            self._copies.hear_letter(number, uid, letter)
        self._answered()
        self._go_on()
        return True

    def _go_on(self):
        """Says the next step when all is answered that was said behind the list."""
        if self._at < len(self._asked):
            return
        # Letters are asked for once: behind their answers none is missing.
        for number, uid in self._copies.missing():
            self._ask(("letter", number, uid), ("letter", number, uid), None)
        if self._at == len(self._asked):
            self._ask(("bye",), ("bye",), None)
