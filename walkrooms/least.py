"""The least table of a house."""

from walkrooms.lacking import ENTRY_WORDS, MEANS, Rows, Table, lacks
from walkrooms.places import places_of


def least_table(house):
    """The tuple (holds, means) that is let by for a house and lies within each table that is."""
    rows = Rows(house)
    table = Table()
    lacking = lacks(table, rows)
    # Only what each table that is let by must have is put in, until nothing is lacking.
    while lacking:
        for place, word, name in lacking:
            table.put(place, word, name)
        lacking = lacks(table, rows)
    holds = {place: entries_in(table, place) for place in places_of(house)}
    means = {name: sorted(table.names_by(name, MEANS)) for name in sorted(rows.heard)}
    return holds, means


def entries_in(table, place):
    """The entries of a place, sorted."""
    return sorted([(word, name) for word in ENTRY_WORDS for name in table.names_by(place, word)])
