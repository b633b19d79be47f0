"""A counting machine: its orders and states."""


def next_state(machine, state):
    """The state behind an order of a machine; None behind stop."""
    at, values = state
    order = machine[at]
    if order[0] == "stop":
        return None
    place = order[1]
    if order[0] == "up":
        return order[2], with_value(values, place, values[place] + 1)
    if values[place] > 0:
        return order[2], with_value(values, place, values[place] - 1)
    return order[3], values


def with_value(values, place, number):
    """Values with another number at a place."""
    return (*values[:place], number, *values[place + 1:])
