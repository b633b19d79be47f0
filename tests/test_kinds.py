"""[10.1] to [10.3] kinds, and which of them keep a house."""

import copy
import unittest

import plain
from samples import Drawer, beside, drawn, drawn_houses
from walkrooms.kinds import keeps
from walkrooms.reading import read
from walkrooms.stands import settled
from walkrooms.steps import row_at, step_done, steps_of
from walkrooms.telling import told_kinds

MUCH_SAID = ("room",) * 4 + ("in", "out", "open", "open", "say", "say", "hear", "hear", "new", "again")
# What a rule without anything lets by.
SHUT = (False, False, [], None)


def each_alone(*names):
    """Groups in which each name is alone, called by its great letter, and "." by 0."""
    return {".": "0", **{name: name.upper() for name in names}}


def fewer_of(rule, groups):
    """All rules that let by one thing fewer than this one, or say another group."""
    walks, opened, goes, says = rule
    told = []
    if walks:
        told.append((False, opened, goes, says))
    if opened:
        told.append((walks, False, goes, says))
    for at in range(len(goes)):
        told.append((walks, opened, goes[:at] + goes[at + 1:], says))
    if says is not None:
        told += [(walks, opened, goes, other) for other in (None, *groups) if other != says]
    return told


def with_one_fewer(groups, rules):
    """All kinds that let by one thing fewer, or lack one thing."""
    told = []
    for group in rules:
        for rule in fewer_of(rules[group], sorted(set(groups.values()))):
            told.append((groups, {**rules, group: rule}))
        told.append((groups, {other: rules[other] for other in rules if other != group}))
    for name in groups:
        told.append(({other: groups[other] for other in groups if other != name}, rules))
    return told


# A house's text and kinds that just keep it: with any one thing left out they don't. Rules that let by nothing are put in.
JUST = (
    ("0", each_alone(), {}),
    ("!0", each_alone(), {}),
    ("new k 0", each_alone("k"), {}),
    ("a[]", each_alone("a"), {}),
    ("a[b[]]", each_alone("a", "b"), {}),
    ("in a", each_alone("a"), {"0": (True, False, ["A"], None)}),
    ("out a", each_alone("a"), {"0": (True, False, ["A"], None)}),
    ("open a", each_alone("a"), {"A": (False, True, [], None)}),
    ("<a>", each_alone("a"), {"0": (False, False, [], "A")}),
    ("(x)", each_alone("x"), {"0": (False, False, [], "X")}),
    # What is within a room keeps that one's group, not the one around.
    ("a[in b]", each_alone("a", "b"), {"A": (True, False, ["B"], None)}),
    ("a[out b]", each_alone("a", "b"), {"A": (True, False, ["B"], None)}),
    ("a[open b]", each_alone("a", "b"), {"B": (False, True, [], None)}),
    ("a[<b>]", each_alone("a", "b"), {"A": (False, False, [], "B")}),
    ("a[(x)]", each_alone("a", "x"), {"A": (False, False, [], "X")}),
    ("a[b[in c]] | in b", each_alone("a", "b", "c"), {"B": (True, False, ["C"], None), "0": (True, False, ["B"], None)}),
    ("a[in a]", each_alone("a"), {"A": (True, False, ["A"], None)}),
    ("a[<a>]", each_alone("a"), {"A": (False, False, [], "A")}),
    # Rests, also of those that bind.
    ("in a.out b.in c", each_alone("a", "b", "c"), {"0": (True, False, ["A", "B", "C"], None)}),
    ("in a.(<b> | open c)", each_alone("a", "b", "c"), {"0": (True, False, ["A"], "B"), "C": (False, True, [], None)}),
    ("out a.d[in b]", each_alone("a", "b", "d"), {"0": (True, False, ["A"], None), "D": (True, False, ["B"], None)}),
    ("open a.in b", each_alone("a", "b"), {"0": (True, False, ["B"], None), "A": (False, True, [], None)}),
    ("open a.<b>", each_alone("a", "b"), {"0": (False, False, [], "B"), "A": (False, True, [], None)}),
    ("(x).in a", each_alone("a", "x"), {"0": (True, False, ["A"], "X")}),
    ("(x).in x", each_alone("x"), {"0": (True, False, ["X"], "X")}),
    ("(x).x[<b>]", each_alone("b", "x"), {"0": (False, False, [], "X"), "X": (False, False, [], "B")}),
    ("new k in k", each_alone("k"), {"0": (True, False, ["K"], None)}),
    ("a[new k (k[out b] | <k>)]", each_alone("a", "b", "k"), {"A": (False, False, [], "K"), "K": (True, False, ["B"], None)}),
    ("!in a", each_alone("a"), {"0": (True, False, ["A"], None)}),
    ("!!a[!<b>]", each_alone("a", "b"), {"A": (False, False, [], "B")}),
    # One group of several names.
    ("<a> | (x).<x>", {".": "0", "a": "A", "x": "A"}, {"0": (False, False, [], "A")}),
    ("<a> | (x).x[in b] | a[in c]", {".": "0", "a": "A", "x": "A", "b": "B", "c": "B"}, {"0": (False, False, [], "A"), "A": (True, False, ["B"], None)}),
    ("a[in b]", {".": "", "a": "", "b": ""}, {"": (True, False, [""], None)}),
    # What is opened hands on its walking, its goes and what it says.
    ("open a | a[in b]", each_alone("a", "b"), {"0": (True, False, ["B"], None), "A": (True, True, ["B"], None)}),
    ("open a | a[out b.in c]", each_alone("a", "b", "c"), {"0": (True, False, ["B", "C"], None), "A": (True, True, ["B", "C"], None)}),
    ("open a | a[<b>]", each_alone("a", "b"), {"0": (False, False, [], "B"), "A": (False, True, [], "B")}),
    ("open a | a[(x)]", each_alone("a", "x"), {"0": (False, False, [], "X"), "A": (False, True, [], "X")}),
    ("r[open a | a[in b | <c>]]", each_alone("a", "b", "c", "r"), {"R": (True, False, ["B"], "C"), "A": (True, True, ["B"], "C")}),
    ("open a.open b | a[b[in c]]", each_alone("a", "b", "c"),
     {"0": (True, False, ["C"], None), "A": (False, True, [], None), "B": (True, True, ["C"], None)}),
    ("open a | a[open b | b[in c]]", each_alone("a", "b", "c"),
     {"0": (True, False, ["C"], None), "A": (True, True, ["C"], None), "B": (True, True, ["C"], None)}),
    ("a[open a | in b]", each_alone("a", "b"), {"A": (True, True, ["B"], None)}),
)


class Keeping(unittest.TestCase):
    """[10.2] which kinds keep a house."""

    def told(self, house, groups, rules, wanted):
        before = copy.deepcopy((house, groups, rules))
        self.assertIs(keeps(house, groups, rules), wanted, (house, groups, rules))
        self.assertIs(plain.kinds_keep(house, groups, rules), wanted)
        self.assertEqual((house, groups, rules), before)

    def test_kinds_that_just_keep_a_house(self):
        for text, groups, some in JUST:
            rules = {**{group: SHUT for group in groups.values()}, **some}
            self.told(read(text), groups, rules, True)
            for fewer in with_one_fewer(groups, rules):
                self.told(read(text), *fewer, False)

    def test_more_than_needed_keeps_too(self):
        for text, groups, some in JUST:
            every = sorted(set(groups.values()))
            rules = {**{group: SHUT for group in every}, **some}
            says = {group: rules[group][3] for group in rules}
            # All walk, are opened, and go everywhere; what is said stays.
            self.told(read(text), groups, {group: (True, True, every[::-1] + every, says[group]) for group in rules}, True)

    def test_goes_in_any_order_and_twice(self):
        for goes in (["B", "C"], ["C", "B"], ["C", "B", "C", "B"], ["C", "Q", "B"]):
            self.told(read("in b.out c"), each_alone("b", "c"), {"0": (True, False, goes, None), "B": SHUT, "C": SHUT}, True)
            self.told(read("in b.out c | open b"), each_alone("b", "c"), {"0": (True, False, goes, None), "B": (True, True, ["B", "C"], None), "C": SHUT}, True)

    def test_walks_only_if(self):
        for around in (False, True):
            for walks in (False, True):
                for word in ("open a", "r[open a]"):
                    groups = each_alone("a", "r")
                    rules = {"0": (around, False, [], None), "R": (around, False, [], None), "A": (walks, True, [], None)}
                    self.told(read(word), groups, rules, around or not walks)

    def test_goes_are_handed_on(self):
        for around in ([], ["A"], ["B"], ["A", "B"]):
            for goes in ([], ["A"], ["B"], ["A", "B"]):
                rules = {"0": (True, False, around, None), "A": (True, True, goes, None)}
                self.told(read("open a"), each_alone("a"), rules, set(goes) <= set(around))

    def test_says_are_handed_on(self):
        for around in (None, "A", "B"):
            for says in (None, "A", "B"):
                rules = {"0": (False, False, [], around), "A": (False, True, [], says)}
                self.told(read("open a"), each_alone("a"), rules, says is None or says == around)

    def test_a_room_hands_on_nothing_to_the_one_around(self):
        groups = each_alone("a", "b", "c")
        rules = {"0": SHUT, "A": (True, False, ["B"], "C"), "B": SHUT, "C": SHUT}
        self.told(read("a[in b | <c>] | b[] | c[]"), groups, rules, True)
        self.told(read("a[b[in b]]"), groups, rules, False)
        self.told(read("a[in b.b[<c>]]"), groups, rules, False)

    def test_groups_and_rules_of_other_names(self):
        groups = {**each_alone("a"), "q": "Q", "r": "0", "s": "A"}
        self.told(read("a[]"), groups, {"0": SHUT, "A": SHUT}, True)
        self.told(read("a[]"), groups, {"0": SHUT, "A": SHUT, "Z": (True, True, ["Z"], "Z")}, True)
        self.told(read("a[] | q[]"), groups, {"0": SHUT, "A": SHUT}, False)
        self.told(read("a[] | in z"), groups, {"0": (True, True, ["A"], None), "A": SHUT}, False)

    def test_a_group_that_has_no_rule(self):
        for text in ("a[]", "<a>", "(a)", "new a 0", "open a", "in a", "!out b.a[]"):
            rules = {"0": (True, True, ["A", "B"], "A"), "A": (False, True, [], None), "B": SHUT}
            self.told(read(text), each_alone("a", "b"), rules, True)
            self.told(read(text), each_alone("a", "b"), {group: rules[group] for group in rules if group != "A"}, False)
            self.told(read(text), each_alone("a", "b"), {group: rules[group] for group in rules if group != "0"}, False)

    def test_a_name_that_has_no_group(self):
        everything = (True, True, ["0"], "0")
        for text in ("a[]", "<a>", "(a)", "new a 0", "open a", "in a.b[]", "!out b.a[]"):
            self.told(read(text), {".": "0", "a": "0", "b": "0"}, {"0": everything}, True)
            self.told(read(text), {".": "0", "b": "0"}, {"0": everything}, False)
            self.told(read(text), {"a": "0", "b": "0"}, {"0": everything}, False)
        self.told(read("0"), {".": "0"}, {"0": everything}, True)
        self.told(read("0"), {}, {"0": everything}, False)
        self.told(read("0"), {".": "0"}, {}, False)

    def test_says_none_is_no_group(self):
        for text in ("<a>", "(a)"):
            self.told(read(text), {".": "", "a": ""}, {"": (True, True, [""], None)}, False)
            self.told(read(text), {".": "", "a": ""}, {"": (True, True, [""], "")}, True)

    def test_drawn_kinds(self):
        draw = drawn(101)
        met = [0, 0]
        for house in drawn_houses(101, 300, least_deep=2, words=MUCH_SAID):
            for _ in range(8):
                kinds = drawn_kinds(house, draw)
                wanted = plain.kinds_keep(house, *kinds)
                met[wanted] += 1
                self.told(house, *kinds, wanted)
        self.assertGreater(min(met), 300, met)

    def test_two_houses_beside_each_other(self):
        draw = drawn(102)
        met = {}
        houses = drawn_houses(102, 400, least_deep=2, most=3)
        for one, other in zip(houses[::2], houses[1::2]):
            other, both = beside(one, other)
            for base in (one, other, both):
                for _ in range(3):
                    groups, rules = drawn_kinds(base, draw)
                    groups = {**{name: "." for name in plain.all_names(both)}, **groups}
                    told = [keeps(house, groups, rules) for house in (one, other)]
                    met[tuple(told)] = met.get(tuple(told), 0) + 1
                    self.told(both, groups, rules, all(told))
        self.assertGreater(min(met.values()), 50, met)
        self.assertEqual(len(met), 4)


def drawn_kinds(house, draw):
    """Kinds that keep a house, or nearly so: told ones, with some groups put together, and something changed."""
    groups, rules = told_kinds(house)
    several = sorted(rules)
    merged = {group: draw.choice(several) if draw.randrange(4) == 0 else group for group in several}
    groups = {name: merged[group] for name, group in groups.items()}
    told = {}
    for group, (walks, opened, goes, says) in rules.items():
        ahead = told.get(merged[group], SHUT)
        goes = ahead[2] + [merged[goal] for goal in goes]
        told[merged[group]] = (walks or ahead[0], opened or ahead[1], goes, ahead[3] if says is None else merged[says])
    for _ in range(draw.randrange(3)):
        group = draw.choice(sorted(told))
        walks, opened, goes, says = told[group]
        changes = [(True, opened, goes + [draw.choice(several)], says), (walks, True, goes, says), (walks, not opened, goes, says), (not walks, opened, goes, says),
                   (walks, opened, goes[:-1], says), (walks, opened, goes, draw.choice(several))]
        told[group] = draw.choice(changes)
    if draw.randrange(12) == 0:
        del groups[draw.choice(sorted(groups))]
    if draw.randrange(12) == 0:
        del told[draw.choice(sorted(told))]
    return groups, told


class Held(unittest.TestCase):
    """[10.3] what kinds that keep a house say holds of each step of each run."""

    def step_is_right(self, stand, step, groups, rules):
        row = row_at(stand, step[1])
        word = step[0]
        if word == "in":
            self.walks(row[step[2]], row[step[4]], groups, rules)
        if word == "out":
            self.walks(row[step[2]][2][step[3]], row[step[2]], groups, rules)
        if word == "open":
            self.assertIs(rules[groups[plain.base(row[step[3]][1])]][1], True)
        if word == "letter":
            self.assertEqual(groups[plain.base(row[step[2]][1])], groups[row[step[3]][1]])

    def walks(self, walker, through, groups, rules):
        walks, opened, goes, says = rules[groups[plain.base(walker[1])]]
        self.assertIs(walks, True)
        self.assertIn(groups[plain.base(through[1])], goes)

    def test_along_drawn_runs(self):
        draw = drawn(103)
        words = {}
        for house in drawn_houses(103, 300, least_deep=3) + drawn_houses(104, 200, least_deep=3, words=MUCH_SAID):
            several = [told_kinds(house)] + [kinds for kinds in [drawn_kinds(house, draw) for _ in range(4)] if keeps(house, *kinds)]
            stand = settled(house)
            for _ in range(12):
                steps = steps_of(stand)
                for step in steps:
                    words[step[0]] = words.get(step[0], 0) + 1
                    for kinds in several:
                        self.step_is_right(stand, step, *kinds)
                if not steps:
                    break
                stand = step_done(stand, draw.choice([step for step in steps if step[0] == "letter"] or steps))
        self.assertEqual(sorted(words), ["again", "in", "letter", "open", "out"])
        self.assertGreater(min(words.values()), 100, words)

    def test_along_runs_of_two_houses(self):
        draw = drawn(105)
        houses = drawn_houses(105, 200, least_deep=3)
        for one, other in zip(houses[::2], houses[1::2]):
            other, both = beside(one, other)
            groups, rules = told_kinds(both)
            self.assertTrue(keeps(one, groups, rules) and keeps(other, groups, rules))
            stand = settled(both)
            for _ in range(10):
                steps = steps_of(stand)
                for step in steps:
                    self.step_is_right(stand, step, groups, rules)
                if steps:
                    stand = step_done(stand, draw.choice(steps))


if __name__ == "__main__":
    unittest.main()
