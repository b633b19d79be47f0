"""Tables of who may ever stand in whom, and which of them are let by."""

from walkrooms.lacking import MEANS, Rows, Table, lacks


def lets_table(house, holds, means):
    """Whether a table is let by for a house."""
    table = Table()
    for place, entries in holds.items():
        for word, name in entries:
            table.put(place, word, name)
    for name, heard in means.items():
        for said in heard:
            table.put(name, MEANS, said)
    return not lacks(table, Rows(house))
