"""[10.4] the finest kinds of a house."""

import copy
import itertools
import time
import unittest

import plain
from samples import drawn, drawn_houses, name_number
from test_kinds import MUCH_SAID, SHUT, drawn_kinds, with_one_fewer
from walkrooms.kinds import keeps
from walkrooms.reading import read
from walkrooms.telling import told_kinds

# A house's text, the names that are not alone in their group, and the rules of groups that let by anything.
TOLD = (
    ("0", {}, {}),
    ("!0", {}, {}),
    ("a[b[]]", {}, {}),
    ("new k k[]", {}, {}),
    ("in a", {}, {".": (True, False, ["a"], None)}),
    ("out b", {}, {".": (True, False, ["b"], None)}),
    ("open a", {}, {"a": (False, True, [], None)}),
    ("<a>", {}, {".": (False, False, [], "a")}),
    ("(x)", {}, {".": (False, False, [], "x")}),
    ("a[in c.in b.out c]", {}, {"a": (True, False, ["b", "c"], None)}),
    # Names that one group says, whoever says them first.
    ("<a> | (x).<x>", {"x": "a"}, {".": (False, False, [], "a")}),
    ("<b> | <a> | <c>", {"b": "a", "c": "a"}, {".": (False, False, [], "a")}),
    ("r[<b> | <a>] | s[<c>]", {"b": "a"}, {"r": (False, False, [], "a"), "s": (False, False, [], "c")}),
    ("(y) | r[(x)]", {}, {".": (False, False, [], "y"), "r": (False, False, [], "x")}),
    ("b[<c>] | b[<d>]", {"d": "c"}, {"b": (False, False, [], "c")}),
    # The rules of names that become one are put together.
    ("<b> | <a> | a[in c] | b[out d] | e[open b]", {"b": "a"}, {".": (False, False, [], "a"), "a": (True, True, ["c", "d"], None), "e": (True, False, ["c", "d"], None)}),
    ("<b> | <a> | a[<c>] | b[<d>]", {"b": "a", "d": "c"}, {".": (False, False, [], "a"), "a": (False, False, [], "c")}),
    ("<b> | <a> | a[<c>] | b[<d>] | c[<e>] | d[<f>] | e[in g] | f[in h]", {"b": "a", "d": "c", "f": "e"},
     {".": (False, False, [], "a"), "a": (False, False, [], "c"), "c": (False, False, [], "e"), "e": (True, False, ["g", "h"], None)}),
    ("a[<c>] | b[<d>] | r[<b> | <a>]", {"b": "a", "d": "c"}, {"r": (False, False, [], "a"), "a": (False, False, [], "c")}),
    # What goes by two names of one group goes by one group.
    ("<b> | <a> | r[in b.in a.out b]", {"b": "a"}, {".": (False, False, [], "a"), "r": (True, False, ["a"], None)}),
    # Letters are one also by chains of opened rooms.
    ("open r | r[<b>] | <a>", {"b": "a"}, {".": (False, False, [], "a"), "r": (False, True, [], "a")}),
    ("open r | r[open s | s[open t | t[<b>]]] | <a>", {"b": "a"},
     {".": (False, False, [], "a"), "r": (False, True, [], "a"), "s": (False, True, [], "a"), "t": (False, True, [], "a")}),
    ("open r | open s | r[<b>] | s[<a>]", {"b": "a"}, {".": (False, False, [], "a"), "r": (False, True, [], "a"), "s": (False, True, [], "a")}),
    # Not the other way: what is said around is not said in what is opened there.
    ("open r | r[] | <a> | s[<b>]", {}, {".": (False, False, [], "a"), "r": (False, True, [], None), "s": (False, False, [], "b")}),
    ("open r | r[q[<b>]] | <a>", {}, {".": (False, False, [], "a"), "r": (False, True, [], None), "q": (False, False, [], "b")}),
    ("r[<b>] | <a>", {}, {".": (False, False, [], "a"), "r": (False, False, [], "b")}),
    # Opened rooms hand on walking and goes, also by chains, and round about.
    ("open r | r[open s] | s[in a]", {}, {".": (True, False, ["a"], None), "r": (True, True, ["a"], None), "s": (True, True, ["a"], None)}),
    ("r[open s | in a] | s[open r | in b]", {}, {"r": (True, True, ["a", "b"], None), "s": (True, True, ["a", "b"], None)}),
    ("r[open r]", {}, {"r": (False, True, [], None)}),
    # A letter that says the room that says it.
    ("a[<a>] | b[<a> | (x).x[in c]]", {"x": "a"}, {"a": (True, False, ["c"], "a"), "b": (False, False, [], "a")}),
    # Names that become one by what becomes one.
    ("<a> | <b> | a[open c] | b[open d] | c[<e>] | d[<f>]", {"b": "a", "f": "e"},
     {".": (False, False, [], "a"), "a": (False, False, [], "e"), "c": (False, True, [], "e"), "d": (False, True, [], "e")}),
)


def alone(house):
    """Groups in which each name is alone."""
    return {name: name for name in plain.all_names(house) | {"."}}


def partitions(names):
    """All groups of these names."""
    if not names:
        return [{}]
    told = []
    for groups in partitions(names[1:]):
        for group in sorted(set(groups.values())) + [names[0]]:
            told.append({**groups, names[0]: group})
    return told


class Telling(unittest.TestCase):
    def test_texts(self):
        for text, together, some in TOLD:
            house = read(text)
            groups = {**alone(house), **together}
            rules = {**{group: SHUT for group in groups.values()}, **some}
            self.assertEqual(told_kinds(house), (groups, rules), text)
            self.assertEqual(plain.finest(house), (groups, rules), text)

    def test_keys_and_names(self):
        for house in drawn_houses(111, 300, words=MUCH_SAID):
            told = told_kinds(house)
            self.assertIs(type(told), tuple)
            groups, rules = told
            self.assertEqual((type(groups), type(rules)), (dict, dict))
            self.assertEqual(set(groups), plain.all_names(house) | {"."})
            self.assertEqual(set(rules), set(groups.values()))
            self.assertEqual(groups["."], ".")
            for group in rules:
                names = [name for name in groups if groups[name] == group]
                self.assertEqual(group, min(names))
                rule = rules[group]
                self.assertEqual([type(thing) for thing in rule[:3]], [bool, bool, list])
                self.assertEqual(rule[2], sorted(set(rule[2])))
                self.assertLessEqual(set(rule[2]), set(rules))
                self.assertTrue(rule[3] is None or rule[3] in rules)
                self.assertEqual((type(rule), len(rule)), (tuple, 4))

    def test_the_house_without_parts(self):
        self.assertEqual(told_kinds(()), ({".": "."}, {".": (False, False, [], None)}))

    def test_they_keep_the_house_and_with_one_thing_left_out_do_not(self):
        left_out = 0
        for house in drawn_houses(112, 200, least_deep=2, words=MUCH_SAID) + drawn_houses(113, 100, least_deep=2):
            kinds = told_kinds(house)
            self.assertIs(keeps(house, *kinds), True, house)
            self.assertIs(plain.kinds_keep(house, *kinds), True, house)
            for fewer in with_one_fewer(*kinds):
                left_out += 1
                self.assertIs(keeps(house, *fewer), False, (house, fewer))
        self.assertGreater(left_out, 2000)

    def test_held_against_a_plain_telling(self):
        together = 0
        for house in drawn_houses(114, 400, least_deep=2, words=MUCH_SAID, free=("a", "b", "c")) + drawn_houses(115, 200, least_deep=2):
            told = told_kinds(house)
            self.assertEqual(told, plain.finest(house), house)
            together += len(told[1]) < len(told[0])
        self.assertGreater(together, 150)

    def test_finer_than_any_kinds_that_keep_the_house(self):
        draw = drawn(116)
        looked = 0
        for house in drawn_houses(116, 300, least_deep=2, words=MUCH_SAID):
            for _ in range(6):
                kinds = drawn_kinds(house, draw)
                if keeps(house, *kinds):
                    looked += 1
                    self.is_finer(house, told_kinds(house), kinds)
        self.assertGreater(looked, 300)

    def is_finer(self, house, told, kinds):
        groups, rules = told
        others, other_rules = kinds
        for name in groups:
            self.assertEqual(others[name], others[groups[name]], (house, name))
        for group in rules:
            walks, opened, goes, says = rules[group]
            there = other_rules[others[group]]
            self.assertTrue(there[0] or not walks)
            self.assertTrue(there[1] or not opened)
            self.assertLessEqual({others[goal] for goal in goes}, set(there[2]))
            if says is not None:
                self.assertEqual(there[3], others[says])

    def test_finer_than_all_groups_that_can_be(self):
        for text in ("<a> | (x).x[]", "a[<b>] | (x)", "open a | a[<b>] | <c>", "r[<a> | <b>] | in a", "a[<c>] | b[<d>]"):
            house = read(text)
            names = sorted(alone(house))
            told = told_kinds(house)
            self.assertIn(told[0], [{name: min(n for n in names if groups[n] == groups[name]) for name in names} for groups in partitions(names)])
            for groups in partitions(names):
                every = sorted(set(groups.values()))
                for said in itertools.product([None, *every], repeat=len(every)):
                    rules = {group: (True, True, every, says) for group, says in zip(every, said)}
                    if plain.kinds_keep(house, groups, rules):
                        self.is_finer(house, told, (groups, rules))

    def test_what_is_told_is_the_askers_own(self):
        house = read("open a | a[in b] | <c> | (x).in x")
        first = told_kinds(house)
        wanted = copy.deepcopy(first)
        for rule in first[1].values():
            rule[2].append("more")
        first[0]["a"] = "q"
        first[0].clear()
        first[1].clear()
        self.assertEqual(told_kinds(house), wanted)
        self.assertEqual(house, read("open a | a[in b] | <c> | (x).in x"))

    def test_lists_of_two_groups_are_not_one(self):
        rules = told_kinds(read("open a | a[in b]"))[1]
        rules["a"][2].append("more")
        self.assertEqual(rules["."][2], ["b"])

    def test_large_houses(self):
        names = [name_number(k) for k in range(130)]
        chain = " | ".join(f"{one}[open {other} | <{one}>]" for one, other in zip(names, names[1:]))
        row = "<a> | <b> | " + " | ".join(f"{one}[<{other}>]" for one, other in zip(["a", "b", *names], names))
        begin = time.perf_counter()
        groups, rules = told_kinds(read(chain))
        self.assertEqual(set(groups[name] for name in names[:-1]), {names[0]})
        groups, rules = told_kinds(read(row))
        self.assertEqual(groups["b"], "a")
        self.assertEqual(groups[names[1]], names[0])
        self.assertLess(time.perf_counter() - begin, 3)


if __name__ == "__main__":
    unittest.main()
