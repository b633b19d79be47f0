"""A counting machine built of rooms, and the deeds by which its orders are done."""

from walkrooms.names import LETTERS
from walkrooms.reading import read
from walkrooms.stands import settled
from walkrooms.steps import row_at, rooms_called, step_done, steps_of

# How many steps in its house an order takes, whatever the values are.
STEPS_OF_ORDERS = {"up": 4, "down": 14, "stop": 0}


def house_of_machine(machine, state):
    """The house of a machine and a state."""
    at, values = state
    parts = []
    for k, order in enumerate(machine):
        parts.extend(order_written(LETTERS[k], order))
    downs = [LETTERS[k] for k, order in enumerate(machine) if order[0] == "down"]
    parts.append(sorter_written("zero", "z", downs))
    parts.append(sorter_written("more", "m", downs))
    parts.extend([counter_written(f"e{LETTERS[k]}", f"r{LETTERS[k]}", value) for k, value in enumerate(values)])
    parts.append(f"l{LETTERS[at]}[]")
    return read(" | ".join(parts))


def order_written(a, order):
    """The parts, written, that do the order of the letter a."""
    if order[0] == "stop":
        return []
    r = LETTERS[order[1]]
    g = LETTERS[order[2]]
    take = f"!open l{a}.open r{r}.(x{a})"
    if order[0] == "up":
        return [f"{take}.new c{a} (r{r}[<c{a}>] | c{a}[<more> | open ok.<x{a}>] | l{g}[])"]
    o = LETTERS[order[3]]
    return [
        f"{take}.open x{a}.(b{a}).k{a}[in b{a}]",
        f"!open z{a}.(ok[] | (w{a}).new d{a} (r{r}[<d{a}>] | d{a}[<zero> | open ok.<zero>] | l{o}[]))",
        f"!open m{a}.(ok[] | (y{a}).(r{r}[<y{a}>] | l{g}[]))",
    ]


def sorter_written(name, sign, downs):
    """The room, written, that sends back who was told its name by a counter, called otherwise."""
    row = " | ".join([f"!open k{a}.{sign}{a}[out {name}]" for a in downs])
    return f"{name}[{row}]"


def counter_written(begin, holder, value):
    """The rooms, written, that are a counter's value: each but the first knows the one ahead, the holder the last."""
    names = [f"{begin}{LETTERS[k]}" for k in range(value + 1)]
    rooms = [f"{names[0]}[<zero> | open ok.<zero>]"]
    rooms.extend([f"{name}[<more> | open ok.<{ahead}>]" for ahead, name in zip(names, names[1:])])
    rooms.append(f"{holder}[<{names[-1]}>]")
    news = " ".join([f"new {name}" for name in names])
    row = " | ".join(rooms)
    return f"{news} ({row})"


def machine_deeds(machine, state):
    """The run that does the order of a state in its house; [] of stop."""
    stand = settled(house_of_machine(machine, state))
    steps = []
    while len(steps) < STEPS_OF_ORDERS[machine[state[0]][0]]:
        step = due_step(stand)
        steps.append(step)
        stand = step_done(stand, step)
    return steps


def due_step(stand):
    """The one step of a stand that is no again; where there is none, the again whose deed has a room to open."""
    steps = steps_of(stand)
    others = [step for step in steps if step[0] != "again"]
    return others[0] if others else [step for step in steps if is_wanted(stand, step)][0]


def is_wanted(stand, step):
    """Whether what is done again by a step would open a room that stands there."""
    row = row_at(stand, step[1])
    deed = row[step[2]][1][0]
    return len(rooms_called(row, deed[1])) > 0
