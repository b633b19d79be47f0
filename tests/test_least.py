"""[8.5] the least table."""

import copy
import unittest

import plain
from samples import Drawer, drawn, drawn_houses
from test_tables import grown, without_one
from walkrooms.houses import bound_in, free_in
from walkrooms.least import least_table
from walkrooms.reading import read
from walkrooms.tables import lets_table

TOLD = (
    ("0", {".": []}, {}),
    ("!0", {".": []}, {}),
    ("<b> | a[]", {".": [("room", "a"), ("say", "b")], "a": [], "b": []}, {}),
    ("(x)", {".": [("hear", "x")], "x": []}, {"x": []}),
    ("new k k[<k>]", {".": [("room", "k")], "k": [("say", "k")]}, {}),
    ("<a> | (x).x[in x.<x>] | (y).<b>",
     {".": [("hear", "x"), ("hear", "y"), ("room", "a"), ("room", "b"), ("say", "a"), ("say", "b")],
      "a": [("in", "a"), ("in", "b"), ("room", "a"), ("room", "b"), ("say", "a"), ("say", "b")],
      "b": [("in", "a"), ("in", "b"), ("room", "a"), ("room", "b"), ("say", "a"), ("say", "b")], "x": [], "y": []}, {"x": ["a", "b"], "y": ["a", "b"]}),
    ("a[in b.out b.in c] | b[] | c[open a]",
     {".": [("room", "a"), ("room", "b"), ("room", "c")], "a": [("in", "b"), ("in", "c"), ("out", "b")], "b": [("room", "a"), ("room", "c")],
      "c": [("in", "b"), ("in", "c"), ("open", "a"), ("out", "b"), ("room", "a"), ("room", "c")]}, {}),
    ("r[b[a[out b.out r]]] | open a", {
        ".": [("open", "a"), ("out", "b"), ("out", "r"), ("room", "a"), ("room", "r")], "r": [("room", "a"), ("room", "b")],
        "b": [("room", "a")], "a": [("out", "b"), ("out", "r")]}, {}),
    ("s[(x).x[]] | r[<a>]", {".": [("room", "r"), ("room", "s")], "s": [("hear", "x")], "r": [("say", "a")], "a": [], "x": []}, {"x": []}),
)


class Least(unittest.TestCase):
    def test_texts(self):
        for text, holds, means in TOLD:
            self.assertEqual(least_table(read(text)), (holds, means), text)

    def test_keys_and_lists(self):
        for house in drawn_houses(51, 300):
            told = least_table(house)
            self.assertIs(type(told), tuple)
            holds, means = told
            self.assertIs(type(holds), dict)
            self.assertIs(type(means), dict)
            self.assertEqual(sorted(holds), sorted({".", *free_in(house), *bound_in(house)}))
            self.assertEqual(sorted(means), sorted(plain.heard_names(house)))
            for things in [*holds.values(), *means.values()]:
                self.assertIs(type(things), list)
                self.assertEqual(things, sorted(set(things)))

    def test_let_by_and_with_one_thing_left_out_not(self):
        left_out = 0
        for house in drawn_houses(52, 200, least_deep=2):
            holds, means = least_table(house)
            self.assertIs(plain.lets(house, holds, means), True)
            self.assertIs(lets_table(house, holds, means), True)
            for fewer in without_one(holds, means)[:60]:
                left_out += 1
                self.assertIs(lets_table(house, *fewer), False, (house, fewer))
        self.assertGreater(left_out, 1000)

    def test_it_lies_within_each_table_that_is_let_by(self):
        draw = drawn(53)
        drawer = Drawer(draw, words=("room", "room", "say", "hear", "in", "out", "open", "new", "again"))
        for k in range(200):
            house = drawer.house(3)
            holds, means = grown(house, {}, {}, draw, k % 5)
            least_holds, least_means = least_table(house)
            for place in least_holds:
                self.assertEqual(set(least_holds[place]) - set(holds.get(place, [])), set(), (house, place))
            for name in least_means:
                self.assertEqual(set(least_means[name]) - set(means.get(name, [])), set(), (house, name))

    def test_what_is_told_is_the_askers_own(self):
        house = read("<a> | (x).x[in x.<x>] | b[]")
        first = least_table(house)
        wanted = copy.deepcopy(first)
        for things in first:
            for key in list(things):
                things[key].append("more")
            things.clear()
        self.assertEqual(least_table(house), wanted)
        self.assertEqual(house, read("<a> | (x).x[in x.<x>] | b[]"))


if __name__ == "__main__":
    unittest.main()
