"""How names hang on one another: parents, rings and threads of a set of rows (th2 to th4, th7)."""


class Ties:
    """What a set of rows says of its names; each answer is worked out when it is asked for."""

    def __init__(self, rows):
        self._rows = rows
        self._parents = parents_of(rows)
        self._roots = None
        self._threads = None
        self._children = None

    def root_of(self, name):
        """The name without a parent at which one ends from this name."""
        if self._roots is None:
            self._roots = roots_of(self._parents)
        return self._roots[name]

    def names(self, row):
        """The names of the thread of a row, ascending."""
        name = lowest_name(row)
        if name == "":
            return ()
        if self._threads is None:
            threads = {}
            for other in sorted(self._parents):
                threads.setdefault(self.root_of(other), []).append(other)
            self._threads = threads
        return tuple(self._threads[self.root_of(name)])

    def path(self, row):
        """The names from the one without a parent down to a row."""
        name = name_above(row, self._parents)
        path = []
        while name != "":
            path.append(name)
            name = self._parents[name]
        return tuple(path[::-1])

    def below(self, row):
        """The uids of the rows below a row, ascending."""
        if row[1] == "":
            return ()
        under = self.names_under(row[1])
        return tuple(sorted([other[0] for other in self._rows if name_above(other, self._parents) in under]))

    def names_under(self, word):
        """A dict with this name and all names that come to it by their parents."""
        if self._children is None:
            children = {}
            for name, parent in self._parents.items():
                children.setdefault(parent, []).append(name)
            self._children = children
        under = {word: True}
        waiting = [word]
        while waiting:
            name = waiting.pop()
            for child in self._children.get(name, []):
                under[child] = True
                waiting.append(child)
        return under

    def mates(self, word):
        """The uids of the rows that have this word among their names."""
        if word not in self._parents:
            return []
        root = self.root_of(word)
        found = [(row[0], lowest_name(row)) for row in self._rows]
        return [uid for uid, name in found if name != "" and self.root_of(name) == root]


def parents_of(rows):
    """The parent of each name, empty if it has none."""
    own = {}
    others = {}
    names = {}
    for _, word, references in rows:
        for name in references:
            names[name] = True
        for parent, name in zip(references, references[1:]):
            claim(others, name, parent)
        if word != "":
            names[word] = True
        if word != "" and len(references) > 0:
            claim(own, word, references[-1])
    parents = {name: own.get(name, others.get(name, "")) for name in names}
    open_rings(parents)
    return parents


def claim(claims, name, parent):
    """Notes a claim, if it counts and is the smallest one of this name."""
    if name != parent and parent <= claims.get(name, parent):
        claims[name] = parent


def open_rings(parents):
    """Takes the parent of the smallest name of each ring."""
    walks = {"": ""}
    for start in list(parents):
        name = start
        while name not in walks:
            walks[name] = start
            name = parents[name]
        if walks[name] == start:
            parents[smallest_in_ring(name, parents)] = ""


def smallest_in_ring(start, parents):
    """The smallest name of the ring in which a name is."""
    smallest = start
    name = parents[start]
    while name != start:
        smallest = min(smallest, name)
        name = parents[name]
    return smallest


def roots_of(parents):
    """The name without a parent at which one ends, for each name."""
    roots = {}
    for start in parents:
        trail = []
        name = start
        while name not in roots and parents[name] != "":
            trail.append(name)
            name = parents[name]
        root = roots.get(name, name)
        roots[name] = root
        for passed in trail:
            roots[passed] = root
    return roots


def lowest_name(row):
    """The name in whose thread a row is: its id or its last reference; empty if none."""
    _, word, references = row
    if word != "" or len(references) == 0:
        return word
    return references[-1]


def name_above(row, parents):
    """The name directly above a row; empty if there is none."""
    _, word, references = row
    if word != "":
        return parents[word]
    return lowest_name(row)
