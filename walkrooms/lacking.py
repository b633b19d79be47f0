"""What a table lacks to be let by for a house: the one looker behind lets_table and least_table."""

from walkrooms.parts import calling_of, rest_of
from walkrooms.places import AROUND

ENTRY_WORDS = ("room", "in", "out", "open", "say", "hear")
# Under this word, by a name in the stead of a place, stand the names in means of it.
MEANS = "means"


class Table:
    """Entries by place, word and name; names in means by name, the word MEANS, and name."""

    def __init__(self):
        self.lists = {}

    def put(self, place, word, name):
        """Puts in an entry, or a name in means."""
        names = self.lists.setdefault((place, word), {})
        names[name] = True

    def names_by(self, place, word):
        """The names that stand by a word in a place, as keys of a dict that is not to be changed."""
        return self.lists.get((place, word), {})

    def all_places(self):
        """All places that have entries, each once."""
        return sorted(set([place for place, word in self.lists if word != MEANS]))


class Rows:
    """The rows of a house by numbers, 0 its own, with parts as (word, calling, number of the rest); what hears bind."""

    def __init__(self, house):
        self.rows = []
        self.heard = {}
        found = [house]
        while len(self.rows) < len(found):
            row = found[len(self.rows)]
            parts = []
            for part in row:
                parts.append((part[0], calling_of(part), len(found)))
                found.append(rest_of(part))
                if part[0] == "hear":
                    self.heard[part[1]] = True
            self.rows.append(parts)

    def names_of(self, table, calling):
        """The names that a calling stands for by a table."""
        return list(table.names_by(calling, MEANS)) if calling in self.heard else [calling]


def lacks(table, rows):
    """Tuples (place, word, name), as the table keeps them, that have to be in it by what is in it already."""
    told = lacks_of_lying(table, rows)
    for place in table.all_places():
        told.extend(lacks_of_letters(table, place))
        told.extend(lacks_of_walks_in(table, place))
        told.extend(lacks_of_walks_out(table, place))
        told.extend(lacks_of_opens(table, place))
    return told


def lacks_of_lying(table, rows):
    """The entries that are lacking for each part of the house to lie in "."."""
    told = []
    todo = [(0, AROUND)]
    # Rooms of one calling may lie in many places, those within them too: each row is looked at once for each place.
    done = {(0, AROUND): True}
    while todo:
        number, place = todo.pop()
        for part in rows.rows[number]:
            entries, further = demands_of(table, rows, part, place)
            told.extend([(place, word, name) for word, name in entries if name not in table.names_by(place, word)])
            for inner in further:
                if (part[2], inner) not in done:
                    done[(part[2], inner)] = True
                    todo.append((part[2], inner))
    return told


def demands_of(table, rows, part, place):
    """The entries that a part asks of its place, and the places in which the parts of its rest have to lie."""
    word, calling, number = part
    if word in ("new", "again"):
        return [], [place]
    if word == "hear":
        return [("hear", calling)], [place]
    names = rows.names_of(table, calling)
    return [(word, name) for name in names], names if word == "room" else [place]


def lacks_of_letters(table, place):
    """Names that can be heard in a place, and aren't in means of who hears there."""
    return [
        (hearer, MEANS, said)
        for hearer in table.names_by(place, "hear")
        for said in table.names_by(place, "say")
        if said not in table.names_by(hearer, MEANS)
    ]


def lacks_of_walks_in(table, place):
    """Rooms that can walk from a place into others that stand there, and aren't entries of these."""
    rooms = table.names_by(place, "room")
    return [
        (goal, "room", walker)
        for walker in rooms
        for goal in table.names_by(walker, "in")
        if goal in rooms and walker not in table.names_by(goal, "room")
    ]


def lacks_of_walks_out(table, place):
    """Rooms that can walk into a place out of others that stand there, and aren't entries of the place."""
    rooms = table.names_by(place, "room")
    return [
        (place, "room", walker)
        for outer in rooms
        for walker in table.names_by(outer, "room")
        if walker not in rooms and outer in table.names_by(walker, "out")
    ]


def lacks_of_opens(table, place):
    """Entries of rooms that can be opened in a place, that aren't entries of the place."""
    rooms = table.names_by(place, "room")
    return [
        (place, word, name)
        for poured in table.names_by(place, "open") if poured in rooms
        for word in ENTRY_WORDS
        for name in table.names_by(poured, word)
        if name not in table.names_by(place, word)
    ]
