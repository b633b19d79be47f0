"""Runs, and walks that can be undone."""

from walkrooms.errors import NoStep, Nothing
from walkrooms.stands import settled
from walkrooms.steps import is_whole, step_done


def run(stand, steps):
    """The stand behind a list of steps; NoStep, at the number of the first that is none."""
    for at, step in enumerate(steps):
        try:
            stand = step_done(stand, step)
        except NoStep:
            raise NoStep(at) from None
    return stand


class Walk:
    """A walk from a house on; NoHouse of anything else."""

    def __init__(self, house):
        # One stand more than steps: the first is ahead of all of them.
        self.stands = [settled(house)]
        self.house = house
        self.steps = []

    def do(self, step):
        """Does a step; NoStep, at 0, where it is none."""
        self.stands.append(step_done(self.stand(), step))
        self.steps.append(step)

    def undo(self):
        """Undoes the last step that is done; Nothing, where none is left."""
        if not self.steps:
            raise Nothing("no step is left to undo")
        self.steps.pop()
        self.stands.pop()

    def stand(self):
        """The stand behind all that is done."""
        return self.stands[-1]

    def log(self):
        """The steps that are done and not undone."""
        return list(self.steps)

    def many(self):
        """How many steps are done and not undone."""
        return len(self.steps)

    def behind(self, n):
        """The stand behind the first n steps of the log; Nothing of anything but a number of such."""
        if not is_whole(n) or not 0 <= n <= self.many():
            raise Nothing("no stand is behind so many steps")
        return self.stands[n]
