"""Steps of a stand, of those that differ by order alone only one, with how many they are."""

from walkrooms.alike import part_told


class Weigher:
    """Gathers tuples (step, many) for all steps: a step, and how many lead to the same stand in the same way.

    Where news are kept, those are told apart by which private names of unlike bases are to come.
    """

    def __init__(self, keeps_news):
        self.keeps_news = keeps_news
        self.weighed = []

    def gather(self, row, path, weight):
        """Adds the steps in a row and in the rows within its rooms; weight is how many rows are the same as this."""
        lots = self.lots_of(row)
        rooms = lots_with(row, lots, "room")
        for deeds in lots_with(row, lots, "open"):
            for lot in lots_called(row, rooms, row[deeds[0]][1]):
                self.weighed.append((("open", path, deeds[0], lot[0]), weight * len(deeds) * len(lot)))
        for letters in lots_with(row, lots, "say"):
            for lot in lots_with(row, lots, "hear"):
                self.weighed.append((("letter", path, letters[0], lot[0]), weight * len(letters) * len(lot)))
        for lot in lots_with(row, lots, "again"):
            self.weighed.append((("again", path, lot[0]), weight * len(lot)))
        for lot in rooms:
            self.gather_walks_in(row, path, rooms, lot, weight * len(lot))
            self.gather_walks_out(row, path, lot, weight * len(lot))
            self.gather(row[lot[0]][2], (*path, lot[0]), weight * len(lot))

    def gather_walks_in(self, row, path, rooms, lot, weight):
        """Adds the steps by which the rooms of a lot walk into others of their row."""
        inside = row[lot[0]][2]
        for deeds in lots_with(inside, self.lots_of(inside), "in"):
            for goals in lots_called(row, rooms, inside[deeds[0]][1]):
                # A room walks into others that are the same as it, but not into itself.
                others = [j for j in goals if j != lot[0]]
                if others:
                    step = ("in", path, lot[0], deeds[0], others[0])
                    self.weighed.append((step, weight * len(deeds) * len(others)))

    def gather_walks_out(self, row, path, lot, weight):
        """Adds the steps by which rooms walk out of the rooms of a lot."""
        outer = row[lot[0]]
        for walkers in lots_with(outer[2], self.lots_of(outer[2]), "room"):
            inside = outer[2][walkers[0]][2]
            for deeds in lots_with(inside, self.lots_of(inside), "out"):
                if inside[deeds[0]][1] == outer[1]:
                    step = ("out", path, lot[0], walkers[0], deeds[0])
                    self.weighed.append((step, weight * len(walkers) * len(deeds)))

    def lots_of(self, row):
        """Lists of the places at which parts stand that are the same but for order and bound names."""
        lots = {}
        for k, part in enumerate(row):
            lots.setdefault(part_told(part, (), {}, self.keeps_news), []).append(k)
        return list(lots.values())


def weighed_steps(stand, keeps_news):
    """Tuples (step, many) for all steps of a stand, sorted: the first of those that lead to the same stand alike."""
    weigher = Weigher(keeps_news)
    weigher.gather(stand[1], (), 1)
    return sorted(weigher.weighed)


def lots_with(row, lots, word):
    """The lots of parts that have a word."""
    return [lot for lot in lots if row[lot[0]][0] == word]


def lots_called(row, rooms, calling):
    """The lots of rooms that are called so."""
    return [lot for lot in rooms if row[lot[0]][1] == calling]
