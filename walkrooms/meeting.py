"""Rooms that are kept apart by a table, or meet within the stands that are looked at."""

from walkrooms.known import Known
from walkrooms.least import least_table
from walkrooms.names import base_of
from walkrooms.places import all_within
from walkrooms.stands import settled
from walkrooms.steps import step_done
from walkrooms.weighing import weighed_steps

# So many stands for each one that is counted are gone through at the most.
MOST_ALIKE = 5


def may_come(holds, a, b):
    """Whether by the entries of a table rooms called a may come within the place b, however deep."""
    rooms = {place: [name for word, name in holds[place] if word == "room"] for place in holds}
    return a in all_within(rooms, b)


def told_apart(house, a, b, most=100):
    """Whether rooms called a are kept apart from those called b, else what the first most stands tell."""
    holds, means = least_table(house)
    if not may_come(holds, a, b):
        return ("apart", holds, means)
    begin = settled(house)
    told = meeting_looked_for(begin, a, b, most, True)
    return meeting_looked_for(begin, a, b, most, False) if told is None else told


def meeting_looked_for(begin, a, b, most, keeps_news):
    """Goes through stands, those behind fewer steps first, until a room of base a is within one of base b.

    Stands that are the same but for what new binds count once, but lead to private names of other bases: where news
    are kept, all of them are gone through. None is told where these are too many.
    """
    if has_meeting(begin[1], a, b, False):
        return ("met", [])
    counted = Known(True, False)
    counted.number_of_stand(begin)
    known = Known(True, keeps_news)
    known.number_of_stand(begin)
    # For each stand the number of the one ahead, and the step between; the first has none ahead.
    ways = [(0, None)]
    at = 0
    while at < len(ways):
        stand = known.met[at]
        for step, many in weighed_steps(stand, True):
            after = step_done(stand, step)
            if known.number_of_stand(after) == len(ways):
                if counted.number_of_stand(after) == most:
                    return ("open",)
                ways.append((at, step))
                if has_meeting(after[1], a, b, False):
                    return ("met", run_to(ways, len(ways) - 1))
        if len(ways) > MOST_ALIKE * most:
            return None
        at += 1
    return ("never", len(counted.met))


def has_meeting(row, a, b, is_within):
    """Whether a room of base a stands in a row within a room of base b, or anywhere in it where all is within one."""
    for part in row:
        if part[0] == "room":
            base = base_of(part[1])
            if is_within and base == a or has_meeting(part[2], a, b, is_within or base == b):
                return True
    return False


def run_to(ways, number):
    """The steps that lead to the stand of a number."""
    steps = []
    while number > 0:
        number, step = ways[number]
        steps.append(step)
    return steps[::-1]
