"""Builders of rows, and things that are neither names nor rows, for the tests."""

import random

LETTERS = "abcdefghijklmnopqrstuvwxyz"
# Words of parts that have a calling and a rest.
THREES = ("room", "in", "out", "open", "hear", "new")
BINDERS = ("hear", "new")
USERS = ("room", "in", "out", "open")
# Words of parts as they are drawn, rooms and walks more often than others, so that much is done.
OFTEN = ("room",) * 5 + ("in", "out") * 2 + ("open", "say", "hear", "new", "again")


def others():
    """Things of kinds that are never names, private names or houses, made anew each time."""
    return [
        True, False, None, 0, 1, -1, 7, 10 ** 30, 1.5, float("nan"), 2j,
        b"", b"a", b"a.1", bytearray(b"a"),
        [], ["a"], ["a", "b"], [()], {}, {"a": "b"}, {"a": ()}, set(), {"a"}, frozenset(), frozenset(["a"]),
        range(0), range(3), object(), len, others, int, ValueError("a"), Ellipsis, NotImplemented, iter(()),
    ]


def name_number(k):
    """Unlike names for unlike k, from 0 to 17575, all of them other than the words that are taken."""
    return "q" + LETTERS[k // 676] + LETTERS[k // 26 % 26] + LETTERS[k % 26]


def part(word, name, *rest):
    """A part of any word with these parts in its rest."""
    if word == "again":
        return ("again", rest)
    if word == "say":
        assert not rest
        return ("say", name)
    return (word, name, rest)


def chain(words, many):
    """A row that is many deep, each part but the last with the next in its rest, by the words in turn."""
    row = ()
    for k in reversed(range(many)):
        row = (part(words[k % len(words)], name_number(k), *row),)
    return row


def wide(many):
    """A row of many letters."""
    return (("say", "a"),) * many


def nested(kind, many, within):
    """A tuple or list around within, many of them."""
    thing = within
    for _ in range(many):
        thing = kind([thing])
    return thing


def each_place(name, around="r"):
    """Parts that each have name once, at one place where a free calling can stand, and that place's words."""
    told = []
    for word in USERS + ("say",):
        told.append((word, part(word, name)))
        for outer in THREES + ("again",):
            told.append((outer + " " + word, part(outer, around, part(word, name))))
    return told


def any_things():
    """Things of every kind: those of others, texts, and tuples, lists and dicts with such within them."""
    told = others() + ["", "a", "0", "in", ".", "a.1"]
    for thing in others() + ["a"]:
        told += [(thing,), [thing], (thing, thing), (thing, (), thing), {"a": thing}, ((thing,),), ("in", thing, 0, 0, 0)]
    for many in (2, 24, 50, 99):
        told += [nested(tuple, many, ()), nested(list, many, []), nested(tuple, many, "a"), nested(list, many, {"a": 1})]
    return told


def drawn(seed):
    """A source of chance that draws alike each time."""
    return random.Random(seed)


class Drawer:
    """Draws houses: small rows in which names are few, so that rooms meet."""

    def __init__(self, draw, free=("a", "b"), words=OFTEN, most=4):
        self.draw = draw
        self.free = free
        self.words = words
        self.most = most
        self.bound = 0

    def house(self, deep=3):
        """A house."""
        self.bound = 0
        return self.row(deep, ())

    def row(self, deep, names):
        """A row in which these bound names may stand."""
        if deep == 0:
            return ()
        return tuple([self.part(deep, names) for _ in range(self.draw.randrange(self.most + 1))])

    def part(self, deep, names):
        """A part of any word."""
        word = self.draw.choice(self.words)
        if word in BINDERS:
            self.bound += 1
            name = "q" + LETTERS[self.bound // 26] + LETTERS[self.bound % 26]
            return (word, name, self.row(deep - 1, names + (name,)))
        name = self.draw.choice(self.free + 2 * names)
        if word == "say":
            return ("say", name)
        rest = self.row(deep - 1, names)
        return ("again", rest) if word == "again" else (word, name, rest)


def drawn_houses(seed, many, least_deep=1, **how):
    """Many drawn houses, some of them without parts."""
    drawer = Drawer(drawn(seed), **how)
    return [drawer.house(drawer.draw.randrange(least_deep, 5)) for _ in range(many)]


def mixed(row, draw):
    """A row with its parts, and those of rests at whatever depth, in another order."""
    parts = [(*one[:-1], mixed(one[-1], draw)) if one[0] != "say" else one for one in row]
    draw.shuffle(parts)
    return tuple(parts)


def recalled(row, names):
    """A row in which each calling, bound or not, is called as names tells."""
    told = []
    for one in row:
        if one[0] == "again":
            told.append(("again", recalled(one[1], names)))
        elif one[0] == "say":
            told.append(("say", names.get(one[1], one[1])))
        else:
            told.append((one[0], names.get(one[1], one[1]), recalled(one[2], names)))
    return tuple(told)


def beside(one, other):
    """The other house with what it binds called otherwise than in the first one, and the row of both."""
    other = recalled(other, {name: "o" + name for name in bound_names(other)})
    return other, one + other


def bound_names(row):
    """What the parts of a row bind."""
    told = [part[1] for part in row if part[0] in BINDERS]
    for one in row:
        if one[0] != "say":
            told += bound_names(one[-1])
    return told


def drawn_mail(seed, many, most=4):
    """Many drawn mails, with few names, so that much is sent and gotten."""
    draw = drawn(seed)
    told = []
    while len(told) < many:
        count = [0, 0]
        mail = mail_row(draw, draw.randrange(1, 5), ("a", "b", "c"), count, most + 2)
        # Mail has at most twenty parts, ten of them gets.
        if count[0] <= 20 and count[1] <= 10:
            told.append(mail)
    return told


def mail_row(draw, deep, names, count, most):
    """Drawn mail in which these names may stand; count has how many parts and gets were drawn."""
    if deep == 0:
        return ()
    parts = []
    for _ in range(draw.randrange(most)):
        count[0] += 1
        if draw.randrange(2):
            parts.append(("send", draw.choice(names), draw.choice(names)))
        else:
            count[1] += 1
            x = "x" + LETTERS[count[1] % 26] + LETTERS[count[1] // 26 % 26]
            parts.append(("get", draw.choice(names), x, mail_row(draw, deep - 1, names + (x, x), count, max(2, most - 2))))
    return tuple(parts)


def send_get(mail):
    """The sets of what is free in mail and of what is bound there."""
    free, bound = set(), set()
    for part in mail:
        free |= set(part[1:2] if part[0] == "get" else part[1:3])
        if part[0] == "get":
            inner, more = send_get(part[3])
            free |= inner - {part[2]}
            bound |= more | {part[2]}
    return free, bound
