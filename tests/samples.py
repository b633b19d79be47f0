"""Builders of rows, and things that are neither names nor rows, for the tests."""

LETTERS = "abcdefghijklmnopqrstuvwxyz"
# Words of parts that have a calling and a rest.
THREES = ("room", "in", "out", "open", "hear", "new")
BINDERS = ("hear", "new")
USERS = ("room", "in", "out", "open")


def others():
    """Things of kinds that are never names, private names or houses, made anew each time."""
    return [
        True, False, None, 0, 1, -1, 7, 10 ** 30, 1.5, float("nan"), 2j,
        b"", b"a", b"a.1", bytearray(b"a"),
        [], ["a"], ["a", "b"], [()], {}, {"a": "b"}, {"a": ()}, set(), {"a"}, frozenset(), frozenset(["a"]),
        range(0), range(3), object(), len, others, int, ValueError("a"), Ellipsis, NotImplemented, iter(()),
    ]


def name_number(k):
    """Unlike names for unlike k, from 0 to 17575, all of them other than the words that are taken."""
    return "q" + LETTERS[k // 676] + LETTERS[k // 26 % 26] + LETTERS[k % 26]


def part(word, name, *rest):
    """A part of any word with these parts in its rest."""
    if word == "again":
        return ("again", rest)
    if word == "say":
        assert not rest
        return ("say", name)
    return (word, name, rest)


def chain(words, many):
    """A row that is many deep, each part but the last with the next in its rest, by the words in turn."""
    row = ()
    for k in reversed(range(many)):
        row = (part(words[k % len(words)], name_number(k), *row),)
    return row


def wide(many):
    """A row of many letters."""
    return (("say", "a"),) * many


def nested(kind, many, within):
    """A tuple or list around within, many of them."""
    thing = within
    for _ in range(many):
        thing = kind([thing])
    return thing


def each_place(name, around="r"):
    """Parts that each have name once, at one place where a free calling can stand, and that place's words."""
    told = []
    for word in USERS + ("say",):
        told.append((word, part(word, name)))
        for outer in THREES + ("again",):
            told.append((outer + " " + word, part(outer, around, part(word, name))))
    return told
