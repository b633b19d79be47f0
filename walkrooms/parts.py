"""Where in a part its calling and its rest stand: what the other files ask of single parts."""

# How many things a part of each word has, the word itself counted.
SIZES = {"room": 3, "in": 3, "out": 3, "open": 3, "say": 2, "hear": 3, "new": 3, "again": 2}
BINDING_WORDS = ("hear", "new")


def has_form(thing):
    """Whether thing, of any kind, has a part's word and as many things as that asks for."""
    if not isinstance(thing, tuple) or not thing:
        return False
    # Asked ahead of the look into SIZES, as things of some kinds can't be keys.
    return isinstance(thing[0], str) and SIZES.get(thing[0]) == len(thing)


def calling_of(part):
    """The calling in a part, bound or not; None of an again, which has none."""
    return None if part[0] == "again" else part[1]


def rest_of(part):
    """The row in a part; a letter, which has none, counts as having one without parts."""
    return () if part[0] == "say" else part[-1]


def is_binder(part):
    """Whether a part binds its calling in its rest."""
    return part[0] in BINDING_WORDS
