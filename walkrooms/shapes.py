"""Shapes: rows as numbered nodes, so that private names are quickly told apart by where they stand."""

from walkrooms.alike import around_rest, level_of
from walkrooms.names import base_of
from walkrooms.parts import calling_of, rest_of
from walkrooms.stands import privates_in

# Colors are numbers from 0 on; the first of these stands where a node has no private name.
NOBODY = -1
PICKED = -2
CHOSEN = -3


class Marks:
    """Tells things alike by numbers: the same thing has the same number, unlike things have unlike ones."""

    def __init__(self):
        self.numbers = {}

    def number_of(self, thing):
        """The number of a thing, a new one where it was not asked of yet."""
        return self.numbers.setdefault(thing, len(self.numbers))


class Shape:
    """A row as nodes, those of rests ahead of what they are the rest of, parts that are the same as one node.

    Colors are a list of numbers, one for each private name; names of like colors are not told apart.
    Where bases are kept, names go only to those of their base; where news are kept, what new binds is not called
    otherwise. What two shapes tell can be compared where they were made with the same marks and in the same way.
    """

    def __init__(self, row, marks, keeps_bases=False, keeps_news=False):
        self.shared = marks
        self.keeps_news = keeps_news
        self.names = privates_in(row)
        self.owners = {name: k for k, name in enumerate(self.names)}
        self.nodes = []
        self.places = {}
        self.top = self.place_of(("row", NOBODY, self.rest_nodes(row, ())))
        self.users = self.users_of_names()
        self.named = sorted({node for users in self.users for node in users})
        self.plain_marks = self.marks_of_plain_nodes()
        self.colors = self.refined([self.first_color(name, keeps_bases) for name in self.names])
        self.sign = (self.marks_by(self.colors)[self.top], *sorted(self.colors))

    def first_color(self, name, keeps_bases):
        """The color from which that of a name is refined: its base's, where bases are kept."""
        return self.shared.number_of(("base", base_of(name))) if keeps_bases else 0

    def rest_nodes(self, row, around):
        """The nodes of a row's parts, sorted."""
        return tuple(sorted([self.part_node(part, around) for part in row]))

    def part_node(self, part, around):
        """The node of a part; around has what is bound where it stands, innermost first."""
        within = around_rest(part, around)
        calling = calling_of(part)
        owner = self.owners.get(calling, NOBODY)
        level = level_of(calling, within)
        # Which private name stands there is no part of the label, so that names can be exchanged.
        told = "" if owner != NOBODY else calling if level is None else level
        base = calling if self.keeps_news and part[0] == "new" else ""
        return self.place_of((f"{part[0]} {base}{told}", owner, self.rest_nodes(rest_of(part), within)))

    def place_of(self, node):
        """The number of a node (label, owner, nodes of the rest), which is added where it is new."""
        if node not in self.places:
            self.places[node] = len(self.nodes)
            self.nodes.append(node)
        return self.places[node]

    def users_of_names(self):
        """For each private name the nodes in or under which it stands, in order."""
        users = [[] for name in self.names]
        known = []
        for node, (label, owner, rest) in enumerate(self.nodes):
            here = {k: True for under in rest for k in known[under]}
            if owner != NOBODY:
                here[owner] = True
            known.append(here)
            for k in here:
                users[k].append(node)
        return users

    def marks_of_plain_nodes(self):
        """The marks of all nodes, right for those without private names in or under them."""
        colors = [NOBODY] * len(self.names)
        marks = []
        for node in range(len(self.nodes)):
            marks.append(self.mark_of(node, colors, marks))
        return marks

    def mark_of(self, node, colors, marks):
        """The mark of a node by colors, where those under it have these marks."""
        label, owner, rest = self.nodes[node]
        color = NOBODY if owner == NOBODY else colors[owner]
        return self.shared.number_of((label, color, tuple(sorted([marks[under] for under in rest]))))

    def marks_by(self, colors):
        """The marks of all nodes by colors."""
        marks = list(self.plain_marks)
        for node in self.named:
            marks[node] = self.mark_of(node, colors, marks)
        return marks

    def mark_with_picked(self, k, colors, marks):
        """The mark of the whole by colors, one name picked out; marks has those without picking."""
        picked = replaced_at(colors, k, PICKED)
        marks = list(marks)
        for node in self.users[k]:
            marks[node] = self.mark_of(node, picked, marks)
        return marks[self.top]

    def refined(self, colors):
        """Colors that tell names apart by how the whole looks from each of them, as far as that leads."""
        while True:
            marks = self.marks_by(colors)
            finer = [
                self.shared.number_of((color, self.mark_with_picked(k, colors, marks)))
                for k, color in enumerate(colors)
            ]
            if len(set(finer)) == len(set(colors)):
                return finer
            colors = finer

    def refined_with_chosen(self, k, colors):
        """Colors refined from these, with one name told apart from all others."""
        return self.refined(replaced_at(colors, k, CHOSEN))

    def can_exchange(self, k, j):
        """Whether the row stays the same but for order and bound names where two names are exchanged."""
        order = list(range(len(self.names)))
        exchanged = replaced_at(replaced_at(order, k, j), j, k)
        return self.mark_with_order(order) == self.mark_with_order(exchanged)

    def mark_with_order(self, places):
        """The mark of the whole, the names told by where they stand in the order of places: all of them apart."""
        colors = [NOBODY] * len(places)
        for color, k in enumerate(places):
            colors[k] = color
        return self.marks_by(colors)[self.top]


def replaced_at(colors, k, color):
    """New colors, with another one at k."""
    told = list(colors)
    told[k] = color
    return told
