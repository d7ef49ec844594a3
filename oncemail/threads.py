"""Threads of letters by their ids and references (th1 to th7)."""

from oncemail.contents import id_of, references_of
from oncemail.errors import BadText
from oncemail.ties import Ties, lowest_name, parents_of


def row_of(uid, letter):
    """The row of a letter with this uid."""
    return (uid, id_of(letter), references_of(letter))


def forest(rows):
    """The shown nodes (depth, name, uids) of a set of rows."""
    parents = parents_of(rows)
    uids = uids_by_name(rows)
    children = children_by_name(parents, rows)
    shown = shown_below(children, uids)
    found = []
    waiting = [(0, node) for node in reversed(shown[""])]
    while waiting:
        depth, node = waiting.pop()
        if isinstance(node, int):
            found.append((depth, "", (node,)))
        else:
            found.append((depth, node, tuple(uids.get(node, []))))
            waiting.extend([(depth + 1, child) for child in reversed(shown[node])])
    return tuple(found)


def names_of(rows, uid):
    """The names of the thread of the row with this uid, ascending."""
    row = row_with(rows, uid)
    return Ties(rows).names(row)


def path_of(rows, uid):
    """The names from the one without a parent down to the row with this uid."""
    row = row_with(rows, uid)
    return Ties(rows).path(row)


def below(rows, uid):
    """The uids of the rows below the row with this uid, ascending."""
    row = row_with(rows, uid)
    return Ties(rows).below(row)


def row_with(rows, uid):
    """The row with this uid."""
    for row in rows:
        if row[0] == uid:
            return row
    raise BadText("none")


def uids_by_name(rows):
    """The uids of each name that is not lost, ascending."""
    uids = {}
    for uid, word, _ in sorted(rows):
        if word != "":
            uids.setdefault(word, []).append(uid)
    return uids


def children_by_name(parents, rows):
    """The names and the rows without an id that are directly below each name.

    Such a row stands there by its uid; what is below no name, at the empty text.
    """
    children = {"": []}
    for name in parents:
        children.setdefault(parents[name], []).append(name)
    for row in rows:
        if row[1] == "":
            children.setdefault(lowest_name(row), []).append(row[0])
    return children


def top_down(children):
    """The empty text and all names, each before those below it."""
    order = [""]
    waiting = [""]
    while waiting:
        name = waiting.pop()
        for child in children.get(name, []):
            if not isinstance(child, int):
                order.append(child)
                waiting.append(child)
    return order


def shown_below(children, uids):
    """The nodes shown directly below each name, in their order.

    Names that come later in the forest are settled first, so no call goes deep.
    """
    shown = {}
    heads = {}
    for name in reversed(top_down(children)):
        pairs = []
        for child in children.get(name, []):
            if isinstance(child, int):
                pairs.append((child, child))
            elif child in heads:
                pairs.append(heads[child])
        pairs = sorted(pairs)
        shown[name] = [node for _, node in pairs]
        head = head_of(name, uids.get(name, []), pairs)
        if head is not None:
            heads[name] = head
    return shown


def head_of(name, uids, pairs):
    """The pair (smallest uid, node) of what is shown in the place of a name, or None."""
    least = uids[:1] + [pair[0] for pair in pairs[:1]]
    if len(least) == 0:
        return None
    if len(uids) > 0 or len(pairs) > 1:
        return (min(least), name)
    return pairs[0]
