"""Rows and houses: what is a house, how large rows are, and which callings stand in them."""

from walkrooms.names import is_name
from walkrooms.parts import calling_of, has_form, is_binder, rest_of

MOST_PARTS = 400
MOST_DEEP = 24


def is_house(thing):
    """Whether thing, of any kind, is a house."""
    if parts_within(thing, MOST_PARTS, MOST_DEEP, is_named_part, rest_of) is None:
        return False
    free, bound = callings_of(thing)
    return binds_well(free, bound)


def parts_within(thing, most_parts, most_deep, is_part, rest):
    """All parts of a row, those of rests too; None of a thing, of any kind, that is no row, too large or too deep.

    The function is_part tells of anything whether it is a part, its rest not looked at, and rest tells a part's rest.
    """
    rows = [thing]
    told = []
    # Depth by depth, so that a thing of any depth or size is left as soon as it is too large.
    for deeper in range(most_deep + 1):
        if not all(isinstance(row, tuple) for row in rows):
            return None
        if len(told) + sum(len(row) for row in rows) > most_parts:
            return None
        parts = [part for row in rows for part in row]
        if not parts:
            return told
        if not all(is_part(part) for part in parts):
            return None
        told.extend(parts)
        rows = [rest(part) for part in parts]
    return None


def binds_well(free, bound):
    """Whether what is bound, as often as it is, is bound by one part alone, and stands nowhere outside of its rest."""
    return len(set(bound)) == len(bound) and len(set(bound) & set(free)) == 0


def is_named_part(thing):
    """Whether thing is a part that is called by a name, if by anything; its rest is not looked at."""
    if not has_form(thing):
        return False
    return thing[0] == "again" or is_name(calling_of(thing))


def parts_in(row):
    """How many parts a row has, those of rests too."""
    return sum(1 + parts_in(rest_of(part)) for part in row)


def deep(row):
    """How deep the deepest part of a row lies; 0 where there is none."""
    return max([1 + deep(rest_of(part)) for part in row], default=0)


def free_in(row):
    """The callings that are free in a row, sorted, each once."""
    free, bound = callings_of(row)
    return sorted(set(free))


def bound_in(house):
    """The names that parts of a house bind, sorted, each once."""
    free, bound = callings_of(house)
    return sorted(set(bound))


def callings_of(row):
    """The lists of a row's free callings and of what its parts bind, as often as they stand there."""
    free = []
    bound = []
    gather_callings(row, (), free, bound)
    return free, bound


def gather_callings(row, around, free, bound):
    """Adds a row's callings to the lists free and bound; around has what is bound where the row stands."""
    for part in row:
        calling = calling_of(part)
        within = around
        if is_binder(part):
            bound.append(calling)
            within = around + (calling,)
        elif calling is not None and calling not in around:
            free.append(calling)
        gather_callings(rest_of(part), within, free, bound)


def called(row, x, calling):
    """The row with each free x called otherwise."""
    return tuple([part_called(part, x, calling) for part in row])


def part_called(part, x, calling):
    """The part with each free x called otherwise."""
    word = part[0]
    if word == "again":
        return (word, called(part[1], x, calling))
    # Where the part binds x itself, no x in its rest is free.
    if is_binder(part) and part[1] == x:
        return part
    name = calling if part[1] == x else part[1]
    if word == "say":
        return (word, name)
    return (word, name, called(part[2], x, calling))
