"""What the document says of letters and threads, in plain and slow words, for comparison."""

import re

DIGITS = "0123456789abcdefghijklmnopqrstuvwxyzABCDEFGHIJKLMNOPQRSTUVWXYZ+-"
NAME = re.compile(r"[A-Za-z]+(-[A-Za-z]+)*\Z")
PROPER = re.compile(r"[A-Z][a-z]*(-[A-Z][a-z]*)*\Z")
LINE = re.compile(r"[ -$&-~]*\Z")


class Fault(Exception):
    def __init__(self, line, reason):
        super().__init__(line, reason)
        self.told = (line, reason)


def is_line(thing):
    return type(thing) is str and LINE.match(thing) is not None


def coding_fault(lines):
    """The index of the line with the first fault of a coding, or None."""
    places = [(at, sign) for at, line in enumerate(lines) for sign in line]
    for at, sign in places:
        if sign not in DIGITS:
            return at
    for begin in range(0, len(places), 4):
        group = places[begin:begin + 4]
        number = 0
        for _, sign in group:
            number = number * 64 + DIGITS.index(sign)
        if number >= (0, 95, 9025, 857375)[len(group) - 1]:
            return group[-1][0]
    return None


def header_fault(pair):
    if type(pair) is not tuple or len(pair) != 2:
        return True
    name, text = pair
    if not is_line(name) or not is_line(text):
        return True
    if not PROPER.match(name) or len(name) > 20 or name == "Parts":
        return True
    return text.startswith(" ") or text.endswith(" ") or len(name) + len(text) > 498


def formed(thing, depth):
    if type(thing) is not tuple or len(thing) != 3 or thing[0] != "letter":
        return False
    headers, body = thing[1:]
    if type(headers) is not tuple or not headers or len(headers) > 60:
        return False
    if any(header_fault(pair) for pair in headers):
        return False
    if type(body) is not tuple or len(body) != 2 or type(body[1]) is not tuple:
        return False
    if body[0] == "parts":
        return depth < 4 and 1 <= len(body[1]) <= 8 and all(formed(part, depth + 1) for part in body[1])
    if body[0] != "lines":
        return False
    if not all(is_line(line) and len(line) <= 500 for line in body[1]):
        return False
    codings = [text for name, text in headers if name == "Coding"]
    return codings[:1] != ["six"] or coding_fault(body[1]) is None


def right_letter(thing):
    return formed(thing, 0) and len(written(thing)) <= 20000


def folded(name, text):
    line = name + ": " + text if text else name + ":"
    out = []
    low = len(name) + 2
    while len(line) > 78:
        gaps = [at for at in range(low, len(line) - 1) if re.fullmatch("[^ ] [^ ]", line[at - 1:at + 2])]
        if not gaps:
            break
        near = [at for at in gaps if at <= 78]
        cut = max(near) if near else min(gaps)
        out.append(line[:cut])
        line = line[cut:]
        low = 1
    return out + [line]


def written_lines(letter):
    _, headers, (kind, held) = letter
    out = [line for name, text in headers for line in folded(name, text)]
    if kind == "lines":
        return out + [""] + list(held)
    parts = [written_lines(part) for part in held]
    number = 0
    while any(line in (f"--b{number}", f"--b{number}--") for part in parts for line in part):
        number += 1
    out += [f"Parts: b{number}", ""]
    for part in parts:
        out += [f"--b{number}"] + part
    return out + [f"--b{number}--"]


def written(letter):
    return "".join(line + "\n" for line in written_lines(letter))


def read(text):
    """The letter of a text; raises Fault."""
    if len(text) > 20000:
        raise Fault(0, "too long")
    lines = text.split("\n")
    if lines[-1] == "":
        lines = lines[:-1]
    letter = read_lines(list(enumerate(lines, 1)), len(lines) + 1, 0)
    if len(written(letter)) > 20000:
        raise Fault(0, "too long")
    return letter


RANKS = ("long line", "bad header", "long header", "many headers", "bad parts", "too deep")


def read_lines(rows, behind, depth):
    """The letter of rows (number, line), with the number of the line behind them."""
    empty = [at for at, (_, line) in enumerate(rows) if line == ""]
    end = empty[0] if empty else len(rows)
    faults = [(number, 0) for number, line in rows[:end] if len(line) > 500]
    groups = []
    for number, line in rows[:end]:
        if not line.startswith(" "):
            groups.append((number, [line]))
        elif groups:
            groups[-1][1].append(line)
        else:
            faults.append((number, 1))
    headers, marks = [], []
    for number, (first, *more) in groups:
        name, colon, piece = first.partition(":")
        text = " ".join(word for word in [part.strip(" ") for part in [piece] + more] if word)
        if not colon or len(name) > 20 or not NAME.match(name):
            faults.append((number, 1))
        if len(name) + len(text) > 498:
            faults.append((number, 2))
        if name.lower() == "parts":
            if marks or not re.fullmatch("[A-Za-z0-9]{1,20}", text):
                faults.append((number, 4))
            if depth == 4:
                faults.append((number, 5))
            marks.append(text)
        else:
            if len(headers) == 60:
                faults.append((number, 3))
            headers.append((re.sub("[A-Za-z]+", lambda word: word[0].capitalize(), name), text))
    if faults:
        number, rank = min(faults)
        raise Fault(number, RANKS[rank])
    if not headers:
        raise Fault(rows[end][0] if empty else behind, "no header")
    body = rows[end + 1:]
    if marks:
        parts = [read_lines(part, number, depth + 1) for part, number in divided(body, behind, marks[0])]
        return ("letter", tuple(headers), ("parts", tuple(parts)))
    for number, line in body:
        if len(line) > 500:
            raise Fault(number, "long line")
    lines = tuple(line for _, line in body)
    if [text for name, text in headers if name == "Coding"][:1] == ["six"]:
        fault = coding_fault(lines)
        if fault is not None:
            raise Fault(body[fault][0], "bad coding")
    return ("letter", tuple(headers), ("lines", lines))


def divided(body, behind, mark):
    """The pairs of the rows of a part and the number of the boundary behind it."""
    parts = []
    closed = False
    for number, line in body:
        if closed or (not parts and line != "--" + mark):
            raise Fault(number, "bad boundary")
        if line == "--" + mark:
            if len(parts) == 8:
                raise Fault(number, "many parts")
            if parts:
                parts[-1][1] = number
            parts.append([[], None])
        elif line == "--" + mark + "--":
            parts[-1][1] = number
            closed = True
        else:
            parts[-1][0].append((number, line))
    if not closed:
        raise Fault(behind, "bad boundary")
    return parts


def names_of_rows(rows):
    return sorted({row[1] for row in rows if row[1]} | {word for row in rows for word in row[2]})


def parents(rows):
    """The parent of each name, None if it has none."""
    found = {}
    for name in names_of_rows(rows):
        own = [row[2][-1] for row in rows if row[1] == name and row[2] and row[2][-1] != name]
        others = [a for row in rows for a, b in zip(row[2], row[2][1:]) if b == name and a != name]
        found[name] = min(own) if own else min(others) if others else None
    rings = []
    for name in found:
        trail = [name]
        while found[trail[-1]] is not None and found[trail[-1]] not in trail:
            trail.append(found[trail[-1]])
        if found[trail[-1]] == name:
            rings.append(trail)
    for ring in rings:
        found[min(ring)] = None
    return found


def climb(name, found):
    """The names from this one up to the one without a parent."""
    row = []
    while name is not None:
        row.append(name)
        name = found[name]
    return row


def anchor(row):
    return row[1] or (row[2][-1] if row[2] else None)


def thread_names(rows, uid):
    found = parents(rows)
    row = [row for row in rows if row[0] == uid][0]
    if anchor(row) is None:
        return ()
    top = climb(anchor(row), found)[-1]
    return tuple(name for name in names_of_rows(rows) if climb(name, found)[-1] == top)


def thread_path(rows, uid):
    found = parents(rows)
    row = [row for row in rows if row[0] == uid][0]
    start = found[row[1]] if row[1] else anchor(row)
    return tuple(reversed(climb(start, found)))


def rows_below(rows, uid):
    word = [row[1] for row in rows if row[0] == uid][0]
    return tuple(sorted(row[0] for row in rows if word and word in thread_path(rows, row[0])))


def trees(rows):
    """The forest: each node as (least, name, uids, children)."""
    found = parents(rows)

    def shown(above):
        nodes = [(row[0], "", (row[0],), []) for row in rows if not row[1] and anchor(row) == above]
        for name in found:
            if found[name] == above:
                uids = tuple(sorted(row[0] for row in rows if row[1] == name))
                under = shown(name)
                if uids or len(under) > 1:
                    nodes.append((min(uids + tuple(node[0] for node in under)), name, uids, under))
                else:
                    nodes.extend(under)
        return sorted(nodes)

    def told(depth, nodes):
        for _, name, uids, under in nodes:
            yield (depth, name, uids)
            yield from told(depth + 1, under)

    return tuple(told(0, shown(None)))
