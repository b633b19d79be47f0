"""Rows told so that those that are the same but for order and bound names are told alike."""

from walkrooms.parts import calling_of, is_binder, rest_of


def row_told(row, around, names, keeps_news=False):
    """A row, told; around has what is bound where it stands, innermost first, names how free callings are called.

    Where news are kept, what new binds is told as it is called: it is the base of private names to come.
    """
    return "|".join(sorted([part_told(part, around, names, keeps_news) for part in row]))


def part_told(part, around, names, keeps_news=False):
    """A part, told likewise."""
    within = around_rest(part, around)
    calling = calling_of(part)
    level = level_of(calling, within)
    told = names.get(calling, calling) if level is None else level
    base = calling if keeps_news and part[0] == "new" else ""
    return f"{part[0]} {base}{told}({row_told(rest_of(part), within, names, keeps_news)})"


def around_rest(part, around):
    """What is bound in a part's rest, innermost first."""
    return (calling_of(part), *around) if is_binder(part) else around


def level_of(calling, around):
    """How many parts that bind stand around the one that binds a calling; None of a free one."""
    if calling not in around:
        return None
    return len(around) - 1 - around.index(calling)
