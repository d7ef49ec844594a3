"""Threads of letters by their ids and references (th1 to th7)."""

from oncemail.contents import id_of, references_of
from oncemail.errors import BadText


def row_of(uid, letter):
    """The row of a letter with this uid."""
    return (uid, id_of(letter), references_of(letter))


def forest(rows):
    """The shown nodes (depth, name, uids) of a set of rows."""
    parents = parents_of(rows)
    uids = uids_by_name(rows)
    children = children_by_name(parents, rows)
    shown = shown_below(children, uids)
    found = []
    waiting = [(0, node) for node in reversed(shown[""])]
    while waiting:
        depth, node = waiting.pop()
        if isinstance(node, int):
            found.append((depth, "", (node,)))
        else:
            found.append((depth, node, tuple(uids.get(node, []))))
            waiting.extend([(depth + 1, child) for child in reversed(shown[node])])
    return tuple(found)


def names_of(rows, uid):
    """The names of the thread of the row with this uid, ascending."""
    name = lowest_name(row_with(rows, uid))
    if name == "":
        return ()
    parents = parents_of(rows)
    roots = roots_of(parents)
    return tuple(sorted([other for other in parents if roots[other] == roots[name]]))


def path_of(rows, uid):
    """The names from the one without a parent down to the row with this uid."""
    row = row_with(rows, uid)
    parents = parents_of(rows)
    name = name_above(row, parents)
    path = []
    while name != "":
        path.append(name)
        name = parents[name]
    return tuple(path[::-1])


def below(rows, uid):
    """The uids of the rows below the row with this uid, ascending."""
    _, word, _ = row_with(rows, uid)
    if word == "":
        return ()
    parents = parents_of(rows)
    under = names_under(word, parents)
    return tuple(sorted([row[0] for row in rows if name_above(row, parents) in under]))


def row_with(rows, uid):
    """The row with this uid."""
    for row in rows:
        if row[0] == uid:
            return row
    raise BadText("none")


def lowest_name(row):
    """The name in whose thread a row is: its id or its last reference; empty if none."""
    _, word, references = row
    if word != "" or len(references) == 0:
        return word
    return references[-1]


def name_above(row, parents):
    """The name directly above a row; empty if there is none."""
    _, word, references = row
    if word != "":
        return parents[word]
    return lowest_name(row)


def parents_of(rows):
    """The parent of each name, empty if it has none."""
    own = {}
    others = {}
    names = {}
    for _, word, references in rows:
        for name in references:
            names[name] = True
        for parent, name in zip(references, references[1:]):
            claim(others, name, parent)
        if word != "":
            names[word] = True
        if word != "" and len(references) > 0:
            claim(own, word, references[-1])
    parents = {name: own.get(name, others.get(name, "")) for name in names}
    open_rings(parents)
    return parents


def claim(claims, name, parent):
    """Notes a claim, if it counts and is the smallest one of this name."""
    if name != parent and parent <= claims.get(name, parent):
        claims[name] = parent


def open_rings(parents):
    """Takes the parent of the smallest name of each ring."""
    walks = {"": ""}
    for start in list(parents):
        name = start
        while name not in walks:
            walks[name] = start
            name = parents[name]
        if walks[name] == start:
            parents[smallest_in_ring(name, parents)] = ""


def smallest_in_ring(start, parents):
    """The smallest name of the ring in which a name is."""
    smallest = start
    name = parents[start]
    while name != start:
        smallest = min(smallest, name)
        name = parents[name]
    return smallest


def roots_of(parents):
    """The name without a parent at which one ends, for each name."""
    roots = {}
    for start in parents:
        trail = []
        name = start
        while name not in roots and parents[name] != "":
            trail.append(name)
            name = parents[name]
        root = roots.get(name, name)
        roots[name] = root
        for passed in trail:
            roots[passed] = root
    return roots


def names_under(word, parents):
    """A dict with this name and all names that come to it by their parents."""
    children = {}
    for name in parents:
        children.setdefault(parents[name], []).append(name)
    under = {word: True}
    waiting = [word]
    while waiting:
        name = waiting.pop()
        for child in children.get(name, []):
            under[child] = True
            waiting.append(child)
    return under


def uids_by_name(rows):
    """The uids of each name that is not lost, ascending."""
    uids = {}
    for uid, word, _ in sorted(rows):
        if word != "":
            uids.setdefault(word, []).append(uid)
    return uids


def children_by_name(parents, rows):
    """The names and the rows without an id that are directly below each name.

    Such a row stands there by its uid; what is below no name, at the empty text.
    """
    children = {"": []}
    for name in parents:
        children.setdefault(parents[name], []).append(name)
    for row in rows:
        if row[1] == "":
            children.setdefault(lowest_name(row), []).append(row[0])
    return children


def top_down(children):
    """The empty text and all names, each before those below it."""
    order = [""]
    waiting = [""]
    while waiting:
        name = waiting.pop()
        for child in children.get(name, []):
            if not isinstance(child, int):
                order.append(child)
                waiting.append(child)
    return order


def shown_below(children, uids):
    """The nodes shown directly below each name, in their order.

    Names that come later in the forest are settled first, so no call goes deep.
    """
    shown = {}
    heads = {}
    for name in reversed(top_down(children)):
        pairs = []
        for child in children.get(name, []):
            if isinstance(child, int):
                pairs.append((child, child))
            elif child in heads:
                pairs.append(heads[child])
        pairs = sorted(pairs)
        shown[name] = [node for _, node in pairs]
        head = head_of(name, uids.get(name, []), pairs)
        if head is not None:
            heads[name] = head
    return shown


def head_of(name, uids, pairs):
    """The pair (smallest uid, node) of what is shown in the place of a name, or None."""
    least = uids[:1] + [pair[0] for pair in pairs[:1]]
    if len(least) == 0:
        return None
    if len(uids) > 0 or len(pairs) > 1:
        return (min(least), name)
    return pairs[0]
