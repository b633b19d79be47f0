"""Names, private names, and their bases."""

LETTERS = "abcdefghijklmnopqrstuvwxyz"
FIGURES = "0123456789"
# These begin deeds and new names where rows are written.
TAKEN_WORDS = ("in", "out", "open", "new")
MOST_SIGNS = 6


def is_name(thing):
    """Whether thing, of any kind, is a name."""
    if not isinstance(thing, str) or thing in TAKEN_WORDS:
        return False
    return consists_of(thing, LETTERS)


def is_private(thing):
    """Whether thing, of any kind, is a private name."""
    if not isinstance(thing, str):
        return False
    base, dot, figures = thing.partition(".")
    return is_name(base) and consists_of(figures, FIGURES) and figures[0] != "0"


def base_of(calling):
    """The name ahead of a private name's dot; a name itself."""
    return calling.partition(".")[0]


def consists_of(text, signs):
    """Whether text is one to six of the signs."""
    return 1 <= len(text) <= MOST_SIGNS and all(sign in signs for sign in text)
