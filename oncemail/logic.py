"""What follows for queries from the answers of their tests, for many cases at once.

A mask is an integer; each of its bits tells of one case whether something holds there.
"""


def tests_of(query):
    """The unlike tests of a query other than `all`, a dict of True in their order."""
    found = {}
    waiting = [query]
    while waiting:
        part = waiting.pop()
        if part[0] == "not":
            waiting.append(part[1])
        elif part[0] == "and" or part[0] == "or":
            waiting.extend(list(reversed(part[1])))
        elif part[0] != "all":
            found[part] = True
    return found


def mask_of(query, masks, whole):
    """The cases in which a query holds: masks has those of its tests, whole is all cases."""
    word = query[0]
    if word == "all":
        return whole
    if word == "not":
        return whole ^ mask_of(query[1], masks, whole)
    if word == "and":
        found = whole
        for part in query[1]:
            found = found & mask_of(part, masks, whole)
        return found
    if word == "or":
        found = 0
        for part in query[1]:
            found = found | mask_of(part, masks, whole)
        return found
    return masks[query]
