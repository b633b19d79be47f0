"""[8.1] to [8.4] tables of who may stand in whom, and which of them are let by."""

import copy
import unittest

import plain
from samples import Drawer, beside, drawn, drawn_houses, mixed
from walkrooms.houses import bound_in, free_in, is_house
from walkrooms.least import least_table
from walkrooms.reading import read
from walkrooms.stands import settled
from walkrooms.steps import step_done, steps_of
from walkrooms.tables import lets_table

# A house's text and a table that just keeps it: with any one thing left out it isn't let by.
JUST = (
    ("0", {}, {}),
    # Each kind of part.
    ("a[]", {".": ["room a"]}, {}),
    ("a[<b>]", {".": ["room a"], "a": ["say b"]}, {}),
    ("a[b[in c]]", {".": ["room a"], "a": ["room b"], "b": ["in c"]}, {}),
    ("in a", {".": ["in a"]}, {}),
    ("out a", {".": ["out a"]}, {}),
    ("open a", {".": ["open a"]}, {}),
    ("<a>", {".": ["say a"]}, {}),
    ("(x)", {".": ["hear x"]}, {}),
    ("(x).<b>", {".": ["hear x", "say b"]}, {"x": ["b"]}),
    ("a[(x).in c]", {".": ["room a"], "a": ["hear x", "in c"]}, {}),
    ("new k 0", {}, {}),
    ("new k k[<k>]", {".": ["room k"], "k": ["say k"]}, {}),
    ("!0", {}, {}),
    ("!a[!<b>]", {".": ["room a"], "a": ["say b"]}, {}),
    ("in a.b[<c>]", {".": ["in a", "room b"], "b": ["say c"]}, {}),
    ("a[out c.(<d> | in e.open f)]", {".": ["room a"], "a": ["out c", "say d", "in e", "open f"]}, {}),
    ("open a.(x).new k !<k>", {".": ["open a", "hear x", "say k"]}, {"x": ["k"]}),
    # What a hear binds stands for no name, one, and several.
    ("(x).x[<b>]", {".": ["hear x"]}, {}),
    ("(x).(in x | <x>)", {".": ["hear x"]}, {}),
    ("(x).in x.<b> | a[]", {".": ["hear x", "say b", "room a", "in b"]}, {"x": ["b"]}),
    ("(x).a[in x.<b>]", {".": ["hear x", "room a"], "a": ["say b"]}, {}),
    ("(x).x[<b>] | <a>", {".": ["hear x", "room a", "say a"], "a": ["say b"]}, {"x": ["a"]}),
    ("(x).x[in x.c[<x>]] | <a> | <b>",
     {".": ["hear x", "room a", "room b", "say a", "say b"], "a": ["in a", "in b", "room c", "room a", "room b"], "b": ["in a", "in b", "room c", "room a", "room b"],
      "c": ["say a", "say b"]}, {"x": ["a", "b"]}),
    ("(x).(out x | open x | <x>) | <a>", {".": ["hear x", "out a", "open a", "say a"]}, {"x": ["a"]}),
    # Letters that are heard where they are said, and nowhere else.
    ("<a> | (x) | (y) | <b>", {".": ["say a", "say b", "hear x", "hear y"]}, {"x": ["a", "b"], "y": ["a", "b"]}),
    ("r[<a> | (x)] | s[<b>] | (y)", {".": ["room r", "room s", "hear y"], "r": ["say a", "hear x"], "s": ["say b"]}, {"x": ["a"]}),
    # Walks in.
    ("a[in b] | b[]", {".": ["room a", "room b"], "a": ["in b"], "b": ["room a"]}, {}),
    ("a[in b] | r[b[]]", {".": ["room a", "room r"], "a": ["in b"], "r": ["room b"]}, {}),
    ("a[in a]", {".": ["room a"], "a": ["in a", "room a"]}, {}),
    # Walks out.
    ("b[a[out b]]", {".": ["room b", "room a"], "b": ["room a"], "a": ["out b"]}, {}),
    ("c[a[out b]]", {".": ["room c"], "c": ["room a"], "a": ["out b"]}, {}),
    ("r[b[a[out b]]]", {".": ["room r"], "r": ["room b", "room a"], "b": ["room a"], "a": ["out b"]}, {}),
    # Rooms opened.
    ("open a | a[<b> | in c | out d | open e | (x) | f[]]",
     {".": ["open a", "room a", "say b", "in c", "out d", "open e", "hear x", "room f"], "a": ["say b", "in c", "out d", "open e", "hear x", "room f"]}, {"x": ["b"]}),
    ("open a | b[a[<c>]]", {".": ["open a", "room b"], "b": ["room a"], "a": ["say c"]}, {}),
    # One behind another.
    ("a[in b.in c] | b[c[open a]]",
     {".": ["room a", "room b"], "a": ["in b", "in c"], "b": ["room c", "room a"], "c": ["open a", "room a", "in b", "in c", "room c"]}, {}),
)
WORDS = ("room", "in", "out", "open", "say", "hear")


def as_table(holds, means):
    """A table with its entries as tuples."""
    return {place: [tuple(entry.split()) for entry in entries] for place, entries in holds.items()}, copy.deepcopy(means)


def without_one(holds, means):
    """All tables that have one thing fewer."""
    told = []
    for which in (0, 1):
        for key in (holds, means)[which]:
            for at in range(len((holds, means)[which][key])):
                fewer = (copy.deepcopy(holds), copy.deepcopy(means))
                del fewer[which][key][at]
                told.append(fewer)
    return told


def grown(house, holds, means, draw, many):
    """A table that is let by, grown from another one by drawn things and what these ask for, tried one by one."""
    names = sorted(set(free_in(house) + bound_in(house) + ["zz"]))
    holds, means = copy.deepcopy(holds), copy.deepcopy(means)
    for _ in range(many):
        holds.setdefault(draw.choice(names + ["."]), []).append((draw.choice(WORDS), draw.choice(names)))
    if draw.randrange(2):
        means.setdefault(draw.choice(names), []).append(draw.choice(names))
    heard = plain.heard_names(house)
    while not plain.lets(house, holds, means):
        before = copy.deepcopy((holds, means))
        for part in house:
            lay(part, ".", holds, means, heard)
        close(holds, means)
        assert (holds, means) != before
    return holds, means


def put(holds, place, entry):
    if entry not in holds.setdefault(place, []):
        holds[place].append(entry)


def lay(part, place, holds, means, heard):
    """Puts in what a part lacks to lie in a place."""
    names = [] if part[0] in ("again", "new", "hear") else list(means.get(part[1], [])) if part[1] in heard else [part[1]]
    if part[0] == "hear":
        put(holds, place, ("hear", part[1]))
    for name in names:
        put(holds, place, (part[0], name))
    if part[0] != "say":
        for inner in part[-1]:
            for there in names if part[0] == "room" else [place]:
                lay(inner, there, holds, means, heard)


def close(holds, means):
    """Puts in what the clauses ask for."""
    for p in list(holds):
        for word, m in list(holds[p]):
            for other, a in list(holds[p]):
                if (word, other) == ("hear", "say") and a not in means.setdefault(m, []):
                    means[m].append(a)
                if (word, other) == ("room", "room") and ("in", m) in holds.get(a, []):
                    put(holds, m, ("room", a))
                if (word, other, m) == ("room", "open", a):
                    for entry in list(holds.get(m, [])):
                        put(holds, p, entry)
            if word == "room":
                for other, a in list(holds.get(m, [])):
                    if other == "room" and ("out", m) in holds.get(a, []):
                        put(holds, p, ("room", a))


class Tables(unittest.TestCase):
    def told(self, house, holds, means, wanted):
        before = copy.deepcopy((house, holds, means))
        self.assertIs(lets_table(house, holds, means), wanted, (house, holds, means))
        self.assertEqual((house, holds, means), before)

    def test_tables_that_just_keep_a_house(self):
        for text, holds, means in JUST:
            house = read(text)
            holds, means = as_table(holds, means)
            self.told(house, holds, means, True)
            for fewer in without_one(holds, means):
                self.told(house, *fewer, False)

    def test_parts_that_lack_one_entry(self):
        for word in ("in", "out", "open", "say", "hear", "room"):
            part = ("say", "a") if word == "say" else (word, "a", ())
            for around in (lambda row: row, lambda row: (("new", "k", row),), lambda row: (("again", row),), lambda row: (("again", (("new", "k", row),)),)):
                self.told(around((part,)), {".": [(word, "a")]}, {}, True)
                self.told(around((part,)), {".": []}, {}, False)
                self.told(around((part,)), {}, {}, False)
                for other in WORDS:
                    self.told(around((part,)), {".": [(other, "a")]}, {}, other == word)
                    self.told(around((part,)), {".": [(word, "b")]}, {}, False)
                    self.told(around((part,)), {"a": [(word, "a")], "b": [(word, "a")]}, {}, False)

    def test_deeds_whose_calling_stands_for_no_name(self):
        for word in ("in", "out", "open"):
            house = (("hear", "x", ((word, "x", (("room", "b", (("say", "c"),)),)),)),)
            right = {".": [("hear", "x"), ("room", "b")], "b": [("say", "c")]}
            self.told(house, right, {}, True)
            self.told(house, right, {"x": []}, True)
            self.told(house, {".": [("hear", "x")]}, {}, False)
            self.told(house, {".": [("hear", "x"), ("room", "b")]}, {}, False)
            self.told(house, right, {"x": ["d"]}, False)
            more = {".": right["."] + [(word, "d")], "b": right["b"]}
            self.told(house, more, {"x": ["d"]}, True)
            self.told(house, more, {"x": ["d", "e"]}, False)

    def test_rooms_whose_calling_stands_for_none(self):
        house = read("(x).x[b[<c>] | in d.<e>]")
        self.told(house, {".": [("hear", "x")]}, {}, True)
        self.told(house, {".": [("hear", "x")]}, {"x": []}, True)
        self.told(house, {".": [("hear", "x")]}, {"y": ["a"]}, True)
        self.told(house, {".": [("hear", "x")]}, {"x": ["a"]}, False)
        one = {".": [("hear", "x"), ("room", "a")], "a": [("room", "b"), ("in", "d"), ("say", "e")], "b": [("say", "c")]}
        self.told(house, one, {"x": ["a"]}, True)
        self.told(house, one, {"x": ["a", "g"]}, False)
        two = {**one, ".": one["."] + [("room", "g")], "g": one["a"]}
        self.told(house, two, {"x": ["a", "g"]}, True)
        self.told(house, {**two, "g": one["a"][1:]}, {"x": ["a", "g"]}, False)

    def test_letters_heard(self):
        house = read("<a> | (x)")
        holds = {".": [("say", "a"), ("hear", "x")]}
        self.told(house, holds, {"x": ["a"]}, True)
        self.told(house, holds, {"x": ["b", "a", "a"]}, True)
        self.told(house, holds, {"x": ["b"]}, False)
        self.told(house, holds, {"x": []}, False)
        self.told(house, holds, {}, False)
        self.told(house, holds, {"a": ["x"]}, False)

    def test_walks_in(self):
        house = read("a[in b] | b[]")
        base = {".": [("room", "a"), ("room", "b")], "a": [("in", "b")]}
        self.told(house, {**base, "b": [("room", "a")]}, {}, True)
        self.told(house, base, {}, False)
        self.told(house, {**base, "b": [("room", "b")]}, {}, False)
        self.told(house, {**base, "b": [("room", "a")], "a": [("in", "b"), ("in", "c")]}, {}, True)

    def test_walks_out(self):
        house = read("b[a[out b]]")
        base = {".": [("room", "b")], "b": [("room", "a")], "a": [("out", "b")]}
        self.told(house, base, {}, False)
        self.told(house, {**base, ".": [("room", "b"), ("room", "a")]}, {}, True)
        self.told(read("a[out b] | b[]"), {".": [("room", "b"), ("room", "a")], "a": [("out", "b")]}, {}, True)

    def test_rooms_opened(self):
        house = read("open a | a[<b>]")
        base = {".": [("open", "a"), ("room", "a")], "a": [("say", "b")]}
        self.told(house, base, {}, False)
        self.told(house, {**base, ".": base["."] + [("say", "b")]}, {}, True)
        self.told(house, {**base, ".": base["."] + [("say", "b")], "a": [("say", "b"), ("say", "c")]}, {}, False)
        self.told(house, {**base, ".": base["."] + [("say", "b"), ("hear", "c")], "a": [("say", "b"), ("hear", "c")]}, {}, False)
        self.told(house, {**base, ".": base["."] + [("say", "b"), ("hear", "c")], "a": [("say", "b"), ("hear", "c")]}, {"c": ["b"]}, True)

    def test_places_that_the_house_has_not(self):
        house = read("a[]")
        base = {".": [("room", "a")]}
        for more, means, wanted in (
            ({"p": [("say", "q"), ("hear", "r")]}, {}, False),
            ({"p": [("say", "q"), ("hear", "r")]}, {"r": ["q"]}, True),
            ({"p": [("room", "q"), ("room", "r")], "q": [("in", "r")]}, {}, False),
            ({"p": [("room", "q"), ("room", "r")], "q": [("in", "r")], "r": [("room", "q")]}, {}, True),
            ({"p": [("room", "q")], "s": [("room", "r")], "q": [("in", "r")]}, {}, True),
            ({"p": [("room", "r")], "r": [("room", "q")], "q": [("out", "r")]}, {}, False),
            ({"p": [("room", "r"), ("room", "q")], "r": [("room", "q")], "q": [("out", "r")]}, {}, True),
            ({"p": [("room", "r"), ("open", "r")], "r": [("say", "q")]}, {}, False),
            ({"p": [("room", "r"), ("open", "r"), ("say", "q")], "r": [("say", "q")]}, {}, True),
            ({"p": [("room", "p")], "q": []}, {"z": ["z"], "y": []}, True),
            ({"p": [("room", "p"), ("in", "p"), ("out", "p"), ("open", "p")]}, {}, True),
            ({"p": [("room", "p"), ("in", "q")], "q": [("room", "q"), ("out", "p"), ("open", "q"), ("say", "r"), ("hear", "s")]}, {"s": ["r"]}, True),
            ({"a": [("room", "a")], "p": [("room", "a"), ("open", "a")]}, {}, True),
            ({"a": [("say", "b")], "p": [("room", "a"), ("open", "a")]}, {}, False),
            ({"p": [("room", "q")], "q": [("in", "q")]}, {}, False),
        ):
            self.told(house, {**base, **more}, means, wanted)
            self.assertIs(plain.lets(house, {**base, **more}, means), wanted)

    def test_entries_twice_in_any_order_lists_without_entries(self):
        draw = drawn(41)
        for text, holds, means in JUST:
            house = read(text)
            holds, means = as_table(holds, means)
            wanted = plain.lets(house, holds, means)
            for _ in range(3):
                for table in (holds, means):
                    for key in table:
                        table[key] = table[key] + draw.sample(table[key], min(2, len(table[key])))
                        draw.shuffle(table[key])
                self.told(house, {**holds, "zz": []}, {**means, "zz": []}, wanted)
                self.told(mixed(house, draw), holds, means, wanted)

    def test_rooms_of_heard_callings_within_one_another(self):
        # Each may be any of eight, so that rows must not be looked at once for each way down to them.
        row = ()
        for k in range(23):
            row = (("room", "x", row),)
        house = (("hear", "x", row),)
        names = list("abcdefgh")
        entries = [("room", name) for name in names]
        holds = {name: entries for name in names}
        holds["."] = entries + [("hear", "x")]
        self.told(house, holds, {"x": names}, True)
        self.told(house, {**holds, "h": entries[1:]}, {"x": names}, False)

    def test_drawn_tables(self):
        draw = drawn(42)
        met = [0, 0]
        for house in drawn_houses(42, 250, least_deep=2, most=3):
            holds, means = grown(house, {}, {}, draw, draw.randrange(4))
            self.told(house, holds, means, True)
            met[1] += 1
            for fewer in without_one(holds, means)[:40]:
                wanted = plain.lets(house, *fewer)
                met[wanted] += 1
                self.told(house, *fewer, wanted)
        self.assertGreater(min(met), 200)

    def test_two_houses_beside_each_other(self):
        draw = drawn(43)
        met = {}
        houses = drawn_houses(43, 240, least_deep=2, most=3)
        for one, other in zip(houses[::2], houses[1::2]):
            other, both = beside(one, other)
            self.assertTrue(is_house(both))
            for base in (one, other, both):
                holds, means = grown(base, {}, {}, draw, 2)
                told = (lets_table(one, holds, means), lets_table(other, holds, means))
                met[told] = met.get(told, 0) + 1
                self.told(both, holds, means, all(told))
        self.assertGreater(min(met[(True, True)], met[(True, False)], met[(False, True)]), 20, met)


class Holding(unittest.TestCase):
    """[8.4] what a table that is let by says holds at every stand of every run."""

    def holds_at(self, stand, holds, means):
        heard = plain.heard_names(stand[1])
        for part in stand[1]:
            self.assertTrue(plain.lies(part, ".", holds, means, heard), (stand, part))
        for path, row in plain.all_rows(stand[1]):
            place = "."
            inside = stand[1]
            for k in path:
                place = inside[k][1].partition(".")[0]
                inside = inside[k][2]
            for part in row:
                if part[0] == "room":
                    self.assertIn(("room", part[1].partition(".")[0]), holds.get(place, []))

    def test_along_drawn_runs(self):
        draw = drawn(44)
        drawer = Drawer(draw)
        words = set()
        for _ in range(250):
            house = drawer.house(4)
            tables = [least_table(house), grown(house, {}, {}, draw, 3)]
            stand = settled(house)
            for _ in range(12):
                for holds, means in tables:
                    self.assertIs(lets_table(house, holds, means), True)
                    self.holds_at(stand, holds, means)
                steps = steps_of(stand)
                if not steps:
                    break
                step = draw.choice(steps)
                words.add(step[0])
                stand = step_done(stand, step)
        self.assertEqual(sorted(words), ["again", "in", "letter", "open", "out"])

    def test_along_runs_of_houses_with_much_said(self):
        draw = drawn(45)
        drawer = Drawer(draw, words=("room", "room", "say", "say", "hear", "hear", "in", "out", "open", "new", "again"))
        for _ in range(150):
            house = drawer.house(4)
            holds, means = least_table(house)
            stand = settled(house)
            for _ in range(12):
                self.holds_at(stand, holds, means)
                steps = [step for step in steps_of(stand) if step[0] == "letter"] or steps_of(stand)
                if steps:
                    stand = step_done(stand, draw.choice(steps))

    def test_along_runs_of_two_houses(self):
        draw = drawn(46)
        houses = drawn_houses(46, 160, least_deep=3)
        for one, other in zip(houses[::2], houses[1::2]):
            other, both = beside(one, other)
            holds, means = {}, {}
            # Grown for the one and for the other in turn, never for both at once.
            while not (lets_table(one, holds, means) and lets_table(other, holds, means)):
                holds, means = grown(one, holds, means, draw, 0)
                holds, means = grown(other, holds, means, draw, 0)
            self.assertIs(lets_table(both, holds, means), True)
            stand = settled(both)
            for _ in range(12):
                self.holds_at(stand, holds, means)
                steps = steps_of(stand)
                if steps:
                    stand = step_done(stand, draw.choice(steps))


if __name__ == "__main__":
    unittest.main()
