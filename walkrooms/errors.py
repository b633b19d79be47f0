"""The refusals of the program."""


class RoomError(ValueError):
    """Any refusal."""


class NoHouse(RoomError):
    """What was handed in is no house."""


class NoText(RoomError):
    """What was handed in is no house's text."""


class NoStep(RoomError):
    """A step that the stand hasn't; at is its number in the run, from 0 on."""

    def __init__(self, at):
        super().__init__(f"no step, at {at}")
        self.at = at


class Nothing(RoomError):
    """There is nothing to undo, or no stand behind so many steps."""


class Again(RoomError):
    """The house has rows that are done again."""


class TooMany(RoomError):
    """More stands are come to than were asked for."""


class NoRow(RoomError):
    """What was told to the desk is none of its rows."""


class NoName(RoomError):
    """Nothing stands at the desk, or in the house, by that name."""
