"""Where in a part its calling and its rest stand: what the other files ask of single parts."""

# How many things a part of each word has, the word itself counted.
SIZES = {"room": 3, "in": 3, "out": 3, "open": 3, "say": 2, "hear": 3, "new": 3, "again": 2}
BINDING_WORDS = ("hear", "new")


def has_form(thing):
    """Whether thing, of any kind, has a part's word and as many things as that asks for."""
    return begins_with_word(thing) and SIZES.get(thing[0]) == len(thing)


def begins_with_word(thing):
    """Whether thing, of any kind, is a tuple whose first thing is a text; things of some other kinds can't be keys."""
    return isinstance(thing, tuple) and len(thing) > 0 and isinstance(thing[0], str)


def calling_of(part):
    """The calling in a part, bound or not; None of an again, which has none."""
    return None if part[0] == "again" else part[1]


def rest_of(part):
    """The row in a part; a letter, which has none, counts as having one without parts."""
    return () if part[0] == "say" else part[-1]


def is_binder(part):
    """Whether a part binds its calling in its rest."""
    return part[0] in BINDING_WORDS
