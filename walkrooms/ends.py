"""All ends of houses without rows that are done again."""

from walkrooms.errors import Again, NoHouse, TooMany
from walkrooms.houses import is_house, parts_in
from walkrooms.known import Known
from walkrooms.parts import rest_of
from walkrooms.stands import settled
from walkrooms.steps import step_done
from walkrooms.weighing import weighed_steps


def ends_of(house, most=200):
    """How many stands are come to, the ends among them, and how many runs lead to ends."""
    if not is_house(house):
        raise NoHouse("only a house has ends")
    if has_again(house):
        raise Again("a row that is done again has no end")
    known = Known(False, False)
    known.number_of_stand(settled(house))
    ways = []
    while len(ways) < len(known.met):
        ways.append(ways_from(known, known.met[len(ways)], most))
    ends = [stand for stand, leads in zip(known.met, ways) if not leads]
    return len(known.met), ends, runs_by(known.met, ways)


def has_again(row):
    """Whether an again stands anywhere in a row."""
    return any(part[0] == "again" or has_again(rest_of(part)) for part in row)


def ways_from(known, stand, most):
    """Tuples (number of the stand behind, how many steps lead there) of a stand; TooMany beyond most stands."""
    ways = []
    for step, weight in weighed_steps(stand, False):
        number = known.number_of_stand(step_done(stand, step))
        if len(known.met) > most:
            raise TooMany(f"more than {most} stands are come to")
        ways.append((number, weight))
    return ways


def runs_by(stands, ways):
    """How many runs lead from the first stand to an end."""
    runs = [1] * len(stands)
    # Each step leaves fewer parts, so that stands behind are counted ahead of those that lead to them.
    sizes = [parts_in(row) for number, row in stands]
    for k in sorted(range(len(stands)), key=lambda at: sizes[at]):
        if ways[k]:
            runs[k] = sum(runs[number] * weight for number, weight in ways[k])
    return runs[0]
