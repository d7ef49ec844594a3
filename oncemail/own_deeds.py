"""The deeds of a device: which wait, which are answered, and what -k means by them (d2, d5, d6)."""

from oncemail.commands import words_of
from oncemail.letters import letter_or_none
from oncemail.meant import BOXED, TWO_BOXED, WITH_UIDS, meant_box
from oncemail.names import is_deed
from oncemail.talk import LINE_SIGNS, MOST_NUMBER, MOST_UIDS, say

MOST_UNSETTLED = 100
MOST_LITERAL = 20000
# Which deeds are settled by a list, and which by what came into their boxes; others by their answer.
BY_LIST = ("make", "unmake", "rename", "grant", "leave")
BY_BOXES = ("put", "flag", "copy", "move", "take")


class Own:
    """A deed that is not settled."""

    def __init__(self, deed, answer, pending):
        self.deed = deed
        # None while it waits.
        self.answer = answer
        # The boxes of which nothing was heard behind the answer.
        self.pending = {number: True for number in pending}
        self._letter = None

    def value(self):
        """The value that its answer gave, None if it gave none or waits."""
        return None if self.answer is None else self.answer[1]

    def letter(self):
        """The letter that it puts, or None if its text is none."""
        if self._letter is None:
            self._letter = letter_or_none(self.deed[3])
        return self._letter


class Deeds:
    """All deeds of a device."""

    def __init__(self):
        # The number of the last deed, and of the last one whose answer was heard.
        self.last = 0
        self.heard = 0
        # The deeds that are not settled by their numbers.
        self.rows = {}
        # By number what -k means: ("box", number) or ("uid", number of the box, uid).
        self.means = {}
        self._answers = {}

    def is_full(self):
        """Whether no further deed can be done."""
        return len(self.rows) >= MOST_UNSETTLED

    def put(self, deed):
        """The number of a further deed."""
        self.last += 1
        self.rows[self.last] = Own(deed, None, ())
        return self.last

    def waiting(self, last):
        """The numbers of the deeds up to this one that wait."""
        return [number for number in sorted(self.rows) if number <= last and self.rows[number].answer is None]

    def kind_of(self, number):
        """The word with which a deed that waits begins, or None if there is no such one."""
        own = self.rows.get(number, None)
        return None if own is None or own.answer is not None else own.deed[0]

    def hear_answer(self, number, answer):
        """Takes the answer of a deed that waits."""
        own = self.rows[number]
        self.heard = number
        self._answers[number] = answer
        kind = own.deed[0]
        if answer[0] == "no" or (kind not in BY_LIST and kind not in BY_BOXES):
            del self.rows[number]
            return
        own.answer = answer
        box = meant_box(own.deed[1], self.means) if kind in BOXED else None
        if kind == "make" and answer[1] is not None:
            self.means[number] = ("box", answer[1])
        elif kind == "put" and answer[1] is not None and box is not None:
            self.means[number] = ("uid", box, answer[1])
        if kind in BY_BOXES and box is not None:
            own.pending[box] = True
        if kind in TWO_BOXED:
            goal = meant_box(own.deed[3], self.means)
            if goal is not None:
                own.pending[goal] = True

    def hear_list(self, readable):
        """A list was heard whole in which these boxes have r."""
        for number in self._answered():
            own = self.rows[number]
            for box in list(own.pending):
                if box not in readable:
                    del own.pending[box]
            self._settle(number)

    def hear_since(self, box):
        """What came into a box was heard."""
        for number in self._answered():
            own = self.rows[number]
            if box in own.pending:
                del own.pending[box]
                self._settle(number)

    def _answered(self):
        """The numbers of the deeds that are answered and not settled."""
        return [number for number in sorted(self.rows) if self.rows[number].answer is not None]

    def _settle(self, number):
        """Forgets a deed if nothing is pending any more."""
        if len(self.rows[number].pending) == 0:
            del self.rows[number]

    def letters_put(self, box):
        """By uid the letters that own puts have put into a box, as long as they are not settled."""
        letters = {}
        for number in self._answered():
            value = self.means.get(number, None)
            if value is not None and value[:2] == ("uid", box) and self.rows[number].letter() is not None:
                letters[value[2]] = self.rows[number].letter()
        return letters

    def answers(self):
        """The answers that are not forgotten, by number."""
        return tuple([(number, self._answers[number]) for number in sorted(self._answers)])

    def forget(self, number):
        """Forgets the answers up to this number."""
        for told in list(self._answers):
            if told <= number:
                del self._answers[told]

    def said(self, number):
        """The words and the literal with which a deed is said."""
        own = self.rows[number]
        ahead = ("do", str(number))
        words, literal = words_of(with_numbers(own.deed, self.means))
        if has_long_line(ahead + words, literal):
            # Numbers may be longer than -k, and with these the line was found right.
            words, literal = words_of(own.deed)
        return ahead + words, literal

    def state(self):
        """All of it as a plain value."""
        rows = []
        for number in sorted(self.rows):
            own = self.rows[number]
            rows.append((number, own.deed, own.answer, tuple(sorted(own.pending))))
        means = [(number, self.means[number]) for number in sorted(self.means)]
        return self.last, self.heard, tuple(rows), tuple(means), self.answers()


def deeds_of(state):
    """The deeds with this state."""
    deeds = Deeds()
    deeds.last, deeds.heard, rows, means, answers = state
    deeds.rows = {number: Own(deed, answer, pending) for number, deed, answer, pending in rows}
    deeds.means = {number: value for number, value in means}
    deeds._answers = {number: answer for number, answer in answers}
    return deeds


def with_numbers(deed, means):
    """A deed with the numbers that the answers of makes and puts gave; other -k stay."""
    if deed[0] not in BOXED:
        return deed
    parts = list(deed)
    parts[1] = known_box(deed[1], means)
    if deed[0] in TWO_BOXED:
        parts[3] = known_box(deed[3], means)
    if deed[0] in WITH_UIDS:
        uids = []
        for uid in deed[2]:
            value = means.get(-uid, None) if uid < 0 else None
            known = value is not None and value[:2] == ("uid", parts[1])
            uids.append(value[2] if known else uid)
        parts[2] = tuple(sorted(set(uids)))
    return tuple(parts)


def known_box(number, means):
    """The number of a box, or -k if no number is known for it."""
    known = meant_box(number, means)
    return number if known is None else known


def has_long_line(words, literal):
    """Whether a command has a longer line than can be said."""
    return len(say(words, literal).partition("\n")[0]) > LINE_SIGNS


def can_be_done(thing):
    """Whether a thing is a deed that can be said."""
    if not is_deed(thing):
        return False
    numbers = [part for part in thing if isinstance(part, int)]
    if thing[0] in WITH_UIDS:
        if len(thing[2]) > MOST_UIDS:
            return False
        numbers.extend(list(thing[2]))
    if any([abs(number) > MOST_NUMBER for number in numbers]):
        return False
    words, literal = words_of(thing)
    if literal is not None and len(literal) > MOST_LITERAL:
        return False
    return not has_long_line(("do", str(MOST_NUMBER)) + words, literal)
