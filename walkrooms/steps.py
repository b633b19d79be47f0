"""Steps: the rows of a stand by their paths, which steps there are, and the stands behind them."""

from walkrooms.errors import NoStep
from walkrooms.houses import called
from walkrooms.parts import begins_with_word
from walkrooms.stands import freed

# How many things a step of each word has, word and path counted.
STEP_SIZES = {"in": 5, "out": 5, "open": 4, "letter": 4, "again": 3}


def is_whole(thing):
    """Whether thing, of any kind, is a whole number."""
    return isinstance(thing, int) and not isinstance(thing, bool)


def are_places(thing):
    """Whether thing, of any kind, is a tuple of whole numbers."""
    return isinstance(thing, tuple) and all(is_whole(place) for place in thing)


def part_at(row, place, word):
    """The part at a place of a row, if it is one of this word; else None."""
    if 0 <= place < len(row) and row[place][0] == word:
        return row[place]
    return None


def row_at(stand, path):
    """The row of a stand to which a path leads; None where it leads to none."""
    row = stand[1]
    for place in path:
        room = part_at(row, place, "room")
        if room is None:
            return None
        row = room[2]
    return row


def steps_of(stand):
    """All steps of a stand, sorted."""
    steps = []
    gather_steps(stand[1], (), steps)
    return sorted(steps)


def gather_steps(row, path, steps):
    """Adds the steps in a row, and in the rows within its rooms, to the list steps."""
    for k, part in enumerate(row):
        word = part[0]
        if word == "room":
            steps.extend([("in", path, k, d, j) for d, j in goals_of(row, k)])
            steps.extend([("out", path, k, j, d) for j, d in leavers_of(part)])
            gather_steps(part[2], (*path, k), steps)
        elif word == "open":
            steps.extend([("open", path, k, j) for j in rooms_called(row, part[1])])
        elif word == "say":
            steps.extend([("letter", path, k, j) for j, other in enumerate(row) if other[0] == "hear"])
        elif word == "again":
            steps.append(("again", path, k))


def rooms_called(row, calling):
    """The places in a row at which rooms stand that are called so."""
    return [j for j, part in enumerate(row) if part[0] == "room" and part[1] == calling]


def goals_of(row, k):
    """Tuples (d, j): by its deed at d the room at k can walk into the one at j."""
    return [
        (d, j)
        for d, deed in enumerate(row[k][2]) if deed[0] == "in"
        for j in rooms_called(row, deed[1]) if j != k
    ]


def leavers_of(room):
    """Tuples (j, d): by its deed at d the room at j of this room's row can walk out."""
    return [
        (j, d)
        for j, inner in enumerate(room[2]) if inner[0] == "room"
        for d, deed in enumerate(inner[2]) if deed[0] == "out" and deed[1] == room[1]
    ]


def without(row, *places):
    """A row that has lost the parts at these places."""
    return tuple([part for at, part in enumerate(row) if at not in places])


def with_row(room, row):
    """A room with another row within it."""
    return (room[0], room[1], row)


def with_part(row, place, part):
    """A row with another part at a place."""
    return (*row[:place], part, *row[place + 1:])


def deed_spent(number, room, d):
    """Next, and the room without its deed at d, and with what waited behind that freed at its end."""
    number, rest = freed(number, room[2][d][2])
    return number, with_row(room, (*without(room[2], d), *rest))


# Each of these tells next and the row behind a step in this row; None where there is no such step.

def gone_in(number, row, k, d, j):
    """The room at k walks into the one at j by its deed at d."""
    room = part_at(row, k, "room")
    goal = part_at(row, j, "room")
    if room is None or goal is None or k == j:
        return None
    deed = part_at(room[2], d, "in")
    if deed is None or deed[1] != goal[1]:
        return None
    number, walker = deed_spent(number, room, d)
    return number, without(with_part(row, j, with_row(goal, (*goal[2], walker))), k)


def gone_out(number, row, k, j, d):
    """The room at j within the one at k walks out by its deed at d."""
    outer = part_at(row, k, "room")
    if outer is None:
        return None
    room = part_at(outer[2], j, "room")
    if room is None:
        return None
    deed = part_at(room[2], d, "out")
    if deed is None or deed[1] != outer[1]:
        return None
    number, walker = deed_spent(number, room, d)
    return number, (*with_part(row, k, with_row(outer, without(outer[2], j))), walker)


def opened(number, row, k, j):
    """The deed at k opens the room at j."""
    deed = part_at(row, k, "open")
    room = part_at(row, j, "room")
    if deed is None or room is None or deed[1] != room[1]:
        return None
    number, rest = freed(number, deed[2])
    return number, (*without(row, k, j), *rest, *room[2])


def heard(number, row, k, j):
    """The letter at k is heard at j."""
    letter = part_at(row, k, "say")
    hearer = part_at(row, j, "hear")
    if letter is None or hearer is None:
        return None
    number, rest = freed(number, called(hearer[2], hearer[1], letter[1]))
    return number, (*without(row, k, j), *rest)


def done_again(number, row, k):
    """The row at k is done again."""
    part = part_at(row, k, "again")
    if part is None:
        return None
    number, rest = freed(number, part[1])
    return number, (*row, *rest)


MOVES = {"in": gone_in, "out": gone_out, "open": opened, "letter": heard, "again": done_again}


def step_done(stand, step):
    """The stand behind a step; NoStep, at 0, of anything that is none."""
    moved = moved_row(stand, step)
    if moved is None:
        raise NoStep(0)
    number, row = moved
    return number, with_row_at(stand[1], step[1], row)


def moved_row(stand, step):
    """Next, and the row at a step's path behind the step; None of anything that is no step."""
    if not has_step_form(step):
        return None
    row = row_at(stand, step[1])
    if row is None:
        return None
    move = MOVES[step[0]]
    places = step[2:]
    return move(stand[0], row, *places)


def has_step_form(thing):
    """Whether thing, of any kind, has a step's word, path and places, wherever these lead."""
    if not begins_with_word(thing) or STEP_SIZES.get(thing[0]) != len(thing):
        return False
    return are_places(thing[1]) and are_places(thing[2:])


def with_row_at(row, path, told):
    """A row in which told stands in the stead of the row at a path."""
    if not path:
        return told
    room = row[path[0]]
    return with_part(row, path[0], with_row(room, with_row_at(room[2], path[1:], told)))
