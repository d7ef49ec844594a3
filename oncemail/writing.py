"""The lines in which letters are written (l3)."""

from oncemail.headers import header_lines


def letter_lines(letter):
    """The lines of the text of a letter."""
    _, headers, body = letter
    kind, held = body
    lines = []
    for name, text in headers:
        lines.extend(header_lines(name, text))
    if kind == "lines":
        lines.append("")
        lines.extend(held)
        return lines
    texts = [letter_lines(part) for part in held]
    mark = free_mark(texts)
    lines.append(f"Parts: {mark}")
    lines.append("")
    for text in texts:
        lines.append(f"--{mark}")
        lines.extend(text)
    lines.append(f"--{mark}--")
    return lines


def free_mark(texts):
    """The first mark whose boundaries are no lines of the texts."""
    taken = {line for text in texts for line in text if line.startswith("--")}
    count = 0
    while f"--b{count}" in taken or f"--b{count}--" in taken:
        count += 1
    return f"b{count}"
