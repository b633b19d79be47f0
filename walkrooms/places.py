"""Places: the names of a house, and all that stands around; what its parts do in them."""

from walkrooms.houses import bound_in, free_in
from walkrooms.parts import calling_of, rest_of

AROUND = "."
USE_WORDS = ("in", "out", "open", "say", "hear")


def places_of(house):
    """All places of a house: ".", and its names, each once."""
    return [AROUND, *free_in(house), *bound_in(house)]


def uses_in(house):
    """Tuples (place, word, name) of a house's deeds, letters and hears, the place that of the room around."""
    told = []
    todo = [(AROUND, house)]
    while todo:
        place, row = todo.pop()
        for part in row:
            word = part[0]
            calling = calling_of(part)
            if word in USE_WORDS:
                told.append((place, word, calling))
            todo.append((calling if word == "room" else place, rest_of(part)))
    return told


def all_within(lists, place):
    """What stands in a place's list, in the lists of these, and so on, each once; the place itself only if it does."""
    met = {}
    todo = [place]
    while todo:
        inner = todo.pop()
        for other in lists.get(inner, []):
            if other not in met:
                met[other] = True
                todo.append(other)
    return list(met)
