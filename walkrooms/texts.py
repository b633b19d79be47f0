"""How rows are written."""


def shown(row):
    """A row, written."""
    return parts_shown(row) if row else "0"


def parts_shown(row):
    """The parts of a row with strokes between; nothing, where there are none."""
    return " | ".join([part_shown(part) for part in row])


def part_shown(part):
    """A part, written."""
    word = part[0]
    if word == "room":
        return f"{part[1]}[{parts_shown(part[2])}]"
    if word == "say":
        return f"<{part[1]}>"
    if word == "hear":
        return f"({part[1]}){waiting_shown(part[2])}"
    if word == "new":
        return f"new {part[1]} {grouped(part[2])}"
    if word == "again":
        return f"!{grouped(part[1])}"
    return f"{word} {part[1]}{waiting_shown(part[2])}"


def waiting_shown(rest):
    """What waits behind a deed or a hear; nothing, where there are no parts."""
    return f".{grouped(rest)}" if rest else ""


def grouped(rest):
    """A row as it is written behind a dot: in brackets where its strokes would reach too far."""
    return f"({parts_shown(rest)})" if len(rest) > 1 else shown(rest)
