"""Indexes: what records answer to queries, without their letters (q9)."""

from oncemail.asked import TERM_LENGTH, write_test
from oncemail.contents import addresses_of, id_of, references_of, terms_of, writer_of
from oncemail.errors import BadText
from oncemail.forests import Forest
from oncemail.letters import size_of
from oncemail.logic import mask_of, tests_of
from oncemail.outcomes import outcome_of
from oncemail.signs import lines_in

MOST_RECORDS = 1000


class Index:
    """A set of records as an index keeps it; each record has a bit of its own in all masks."""

    def __init__(self):
        self._forest = Forest()
        # By uid: the size, the turn and the bit, and the texts of the tests that hold.
        self._entries = {}
        self._texts = {}
        # By the text of a test: the mask of the records for which it holds.
        self._masks = {}
        self._whole = 0

    def put(self, record):
        """Puts a record in the place of the one with its uid, if there is one."""
        _, uid, _, flags, turn, letter = record
        if uid in self._entries:
            self.take(uid)
        elif len(self._entries) == MOST_RECORDS:
            raise BadText("many")
        texts = texts_of_tests(letter, flags)
        self.enter((uid, size_of(letter), turn), id_of(letter), references_of(letter), texts)

    def enter(self, entry, word, references, texts):
        """Enters a record (uid, size, turn) with its id, its references and the tests that hold."""
        uid, size, turn = entry
        bit = ~self._whole & (self._whole + 1)
        self._whole = self._whole | bit
        self._forest.put(uid, word, references)
        self._entries[uid] = (size, turn, bit)
        self._texts[uid] = texts
        for text in texts:
            self._masks[text] = self._masks.get(text, 0) | bit

    def take(self, uid):
        """Takes the record with this uid."""
        self._forest.take(uid)
        _, _, bit = self._entries.pop(uid)
        self._whole = self._whole ^ bit
        texts = self._texts.pop(uid)
        for text in texts:
            self._masks[text] = self._masks[text] ^ bit
            if self._masks[text] == 0:
                del self._masks[text]

    def uids(self):
        """The uids of all records, ascending."""
        return tuple(sorted(self._entries))

    def rows(self, term):
        """The uids of the records that have this term anywhere, ascending."""
        return self._uids_in(self._masks.get(write_test(("term", term)), 0))

    def terms(self):
        """The terms of all records, each once, ascending."""
        begin = write_test(("term", ""))
        return tuple(sorted([text[len(begin):] for text in self._masks if text.startswith(begin)]))

    def names(self, uid):
        """The names of the thread of the record with this uid, ascending."""
        return self._forest.names(uid)

    def search(self, query):
        """The uids of the records for which a query holds, ascending."""
        return self._uids_in(self._where(query))

    def outcomes(self, sieve):
        """The pair of the uid and the outcome of a filter for each record, by uid."""
        rules = [(self._where(query), deeds) for _, query, deeds in sieve[1]]
        found = []
        for uid in sorted(self._entries):
            bit = self._entries[uid][2]
            deeds = [deed for where, row in rules if where & bit != 0 for deed in row]
            found.append((uid, outcome_of(deeds)))
        return tuple(found)

    def text(self):
        """All that the index keeps."""
        lines = []
        uids_by_text = {}
        for uid, word, references in self._forest.rows():
            size, turn, _ = self._entries[uid]
            lines.append(f"record {uid} {size} {turn}\n")
            if word != "":
                lines.append(f"id {uid} {word}\n")
            if len(references) > 0:
                words = " ".join(references)
                lines.append(f"re {uid} {words}\n")
            for text in self._texts[uid]:
                uids_by_text.setdefault(text, []).append(str(uid))
        for text in sorted(uids_by_text):
            uids = " ".join(uids_by_text[text])
            lines.append(f"{text}: {uids}\n")
        return "".join(lines)

    def _where(self, query):
        """The mask of the records for which a query holds."""
        masks = {test: self._where_test(test) for test in tests_of(query)}
        return mask_of(query, masks, self._whole)

    def _where_test(self, test):
        """The mask of the records for which a test other than `all` holds."""
        kind = test[0]
        if kind == "size":
            return sum([bit for size, _, bit in self._entries.values() if size > test[1]])
        if kind == "since":
            return sum([bit for _, turn, bit in self._entries.values() if turn >= test[1]])
        if kind == "uid":
            return sum([entry[2] for uid, entry in self._entries.items() if test[1] <= uid <= test[2]])
        if kind == "thread":
            return sum([self._entries[uid][2] for uid in self._forest.mates(test[1])])
        return self._masks.get(write_test(test), 0)

    def _uids_in(self, mask):
        """The uids of the records in a mask, ascending."""
        return tuple([uid for uid in sorted(self._entries) if mask & self._entries[uid][2] != 0])


def texts_of_tests(letter, flags):
    """The texts of the tests that hold for a letter with these flags and that an index keeps."""
    writer = writer_of(letter)
    tests = [("from", address) for address in (writer,) if address is not None]
    tests.extend([("to", address) for address in addresses_of(letter, "To")])
    tests.extend([("cc", address) for address in addresses_of(letter, "Cc")])
    names = {name: True for name, _ in letter[1]}
    for name in names:
        tests.append(("has", name))
        tests.extend([("header", name, term) for term in short_terms(letter, name)])
    for where in ("text", "term"):
        tests.extend([(where, term) for term in short_terms(letter, where)])
    tests.extend([("flag", flag) for flag in flags])
    return list({write_test(test): True for test in tests})


def short_terms(letter, where):
    """The terms that a letter has in a place, but those that no test can have."""
    return [term for term in terms_of(letter, where) if len(term) <= TERM_LENGTH]


def read_index(text):
    """The index with this text."""
    entries = {}
    words_by_uid = {}
    references = {}
    texts = {}
    for line in lines_in(text):
        kind, *words = line.split(" ")
        if kind == "record":
            entry = tuple([int(word) for word in words])
            entries[entry[0]] = entry
            texts[entry[0]] = []
        elif kind == "id":
            words_by_uid[int(words[0])] = words[1]
        elif kind == "re":
            references[int(words[0])] = tuple(words[1:])
        else:
            test, _, uids = line.partition(": ")
            for uid in uids.split(" "):
                texts[int(uid)].append(test)
    index = Index()
    for uid, entry in entries.items():
        index.enter(entry, words_by_uid.get(uid, ""), references.get(uid, ()), texts[uid])
    return index
