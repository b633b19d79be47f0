"""Rearrangements that mean nothing: renamings of one stand to another."""

from walkrooms.alike import row_told
from walkrooms.shapes import Marks, Shape
from walkrooms.stands import privates_in


def is_renaming(one, other, names):
    """Whether names, a dict of texts to texts, is a renaming of the stand one to the stand other."""
    if sorted(names) != privates_in(one[1]) or sorted(names.values()) != privates_in(other[1]):
        return False
    return row_told(one[1], (), names) == row_told(other[1], (), {})


def renaming(one, other):
    """A renaming of the stand one to the stand other; None where there is none."""
    marks = Marks()
    return shapes_matched(Shape(one[1], marks), Shape(other[1], marks))


def same(one, other):
    """Whether two stands are the same."""
    return renaming(one, other) is not None


def shapes_matched(one, other):
    """A renaming of one shape to another one that was made with the same marks; None where there is none."""
    if one.sign != other.sign:
        return None
    return colors_matched(one, one.colors, other, other.colors)


def colors_matched(one, left, other, right):
    """A renaming by which each name goes to one of its color, the same colors being there on both sides."""
    found = matched_in_order(one, left, other, right)
    color = rarest_shared(left)
    if found is not None or color is None:
        return found
    chosen = one.refined_with_chosen(left.index(color), left)
    failed = []
    for j in places_with(right, color):
        # What can be exchanged with one that failed fails, too: else like names would be tried in all orders.
        if any(other.can_exchange(j, k) for k in failed):
            continue
        tried = other.refined_with_chosen(j, right)
        if sorted(chosen) == sorted(tried):
            found = colors_matched(one, chosen, other, tried)
            if found is not None:
                return found
        failed.append(j)
    return None


def matched_in_order(one, left, other, right):
    """The renaming by which names of like colors go to one another in order; None where it is none.

    Of names that can all be exchanged it needs no further look.
    """
    places = sorted(range(len(left)), key=lambda k: left[k])
    goals = sorted(range(len(right)), key=lambda k: right[k])
    if one.mark_with_order(places) != other.mark_with_order(goals):
        return None
    return {one.names[k]: other.names[j] for k, j in zip(places, goals)}


def rarest_shared(colors):
    """Of the colors that several names have one that the fewest have; None where all are unlike."""
    shared = [(colors.count(color), color) for color in sorted(set(colors)) if colors.count(color) > 1]
    return min(shared)[1] if shared else None


def places_with(colors, color):
    """The places at which a color stands."""
    return [k for k, there in enumerate(colors) if there == color]
