"""Stands: rows in which no new is open, with private names in their stead."""

from walkrooms.errors import NoHouse
from walkrooms.houses import called, free_in, is_house
from walkrooms.names import is_private


# The interface calls the number next, which LANGUAGE.md keeps for Python's own; it is handed in by its place.
def freed(number, row):
    """The tuple (next, row) behind the freeing of a row, private names numbered from number on."""
    parts = []
    for part in row:
        number, told = part_freed(number, part)
        parts.extend(told)
    return number, tuple(parts)


def part_freed(number, part):
    """The tuple (next, row) of what comes in the stead of a part that is met."""
    if part[0] == "room":
        number, rest = freed(number, part[2])
        return number, (("room", part[1], rest),)
    if part[0] == "new":
        return freed(number + 1, called(part[2], part[1], f"{part[1]}.{number}"))
    return number, (part,)


def settled(house):
    """The stand of a house; NoHouse of anything else."""
    if not is_house(house):
        raise NoHouse("only a house is settled")
    return freed(1, house)


def privates_in(row):
    """The private names that are free in a row, sorted as texts, each once."""
    return [calling for calling in free_in(row) if is_private(calling)]
