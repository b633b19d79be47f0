"""[4.1], [4.2], [4.3] rearrangements and renamings."""

import itertools
import time
import unittest

from plain import all_renamings
from samples import Drawer, drawn, drawn_houses, mixed, name_number, recalled
from walkrooms.houses import bound_in
from walkrooms.reading import read
from walkrooms.sameness import is_renaming, renaming, same
from walkrooms.stands import privates_in, settled


def stand_of(text):
    """The stand of a house's text."""
    return settled(read(text))


# Texts of houses that settle to the same stands, and of such as do not.
ALIKE = (
    # Parts in another order at every depth.
    ("a[] | <b>", "<b> | a[]"),
    ("a[b[] | <c> | in d]", "a[in d | b[] | <c>]"),
    ("in a.(<b> | <c>)", "in a.(<c> | <b>)"),
    ("(x).(<x> | in x)", "(x).(in x | <x>)"),
    ("!(<a> | <b>)", "!(<b> | <a>)"),
    ("in a.out b.(x).!(c[<d> | <e>] | <f>)", "in a.out b.(x).!(<f> | c[<e> | <d>])"),
    ("in a.new k (<k> | <b>)", "in a.new k (<b> | <k>)"),
    # Bound names called otherwise.
    ("(x).<x>", "(y).<y>"),
    ("in a.new k k[]", "in a.new m m[]"),
    ("(x).(y).(<x> | in y)", "(y).(x).(in x | <y>)"),
    ("new k (k[] | open k)", "new m (open m | m[])"),
    ("!new k (x).(<k> | <x>)", "!new a (b).(<b> | <a>)"),
    ("(x).<x> | (y).in y", "(y).<y> | (x).in x"),
    # Where a new stands.
    ("new k (k[] | <a>)", "<a> | new k k[]"),
    ("new k a[<k>]", "a[new k <k>]"),
    ("new k (a[b[<k>] | <c>] | <d>)", "<d> | a[<c> | b[new k <k>]]"),
    ("new j new k (<j> | in k)", "new k new j (<j> | in k)"),
    ("new j new k (<j> | in k)", "new j <j> | new k in k"),
    # A new that nobody uses.
    ("new k a[]", "a[]"),
    ("a[new k <b>]", "a[<b>] | new j 0"),
    ("new k 0", "0"),
    ("new j new k (<k> | k[])", "new j (<j> | j[])"),
    # Bases do not count.
    ("new a (<a> | in a) | new b <b>", "new b (<b> | in b) | new a <a>"),
    ("<a> | <a> | <b>", "<a> | <b> | <a>"),
    ("0", "0"),
)
UNLIKE = (
    ("0", "<a>"), ("<a>", "<b>"), ("<a>", "<a> | <a>"), ("<a> | <a> | <b>", "<a> | <b> | <b>"), ("<a>", "a[]"), ("in a", "out a"), ("in a", "open a"),
    ("a[<b>]", "a[] | <b>"), ("a[<b>]", "b[<a>]"), ("in a.<b>", "in a | <b>"), ("in a.in b", "in b.in a"), ("!<a>", "<a>"), ("!!<a>", "!<a>"), ("!0", "0"),
    ("new k <k>", "<k>"), ("new k <k>", "<a>"), ("(x).<x>", "(x).<a>"), ("(x).(y).<x>", "(x).(y).<y>"), ("(x).(y).(<x> | in y)", "(x).(y).(<y> | in x)"),
    ("new j new k (<j> | <k>)", "new k (<k> | <k>)"), ("new j new k (<j> | in k)", "new k (<k> | in k)"), ("new j new k (<j> | in k)", "new k <k> | in a"),
    ("new j (<j> | in j) | new k <k>", "new j <j> | new k (in k | out k)"), ("new k a[<k>] | new j b[<j>]", "new k (a[<k>] | b[<k>])"),
    ("in a.new k <k>", "in a.<k>"), ("in a.new k 0", "in a"), ("in a.new k <b>", "in a.<b>"), ("in a.new k b[<k>]", "in a.b[new k <k>]"),
    ("in a.new j new k (<j> | in k)", "in a.new k new j (<j> | in k)"), ("(x).a[] | (y).<y>", "(x).a[] | (y).<x>".replace("<x>", "<b>")),
    ("a[<b> | <c>] | a[<d>]", "a[<b>] | a[<c> | <d>]"), ("!a[] | b[]", "a[] | !b[]"), ("(x).in a", "in a.(x)"), ("(x)", "new x 0"),
)


def inverse(names):
    """A dict the other way."""
    return {there: here for here, there in names.items()}


class Sameness(unittest.TestCase):
    def are_same(self, one, other, told=None):
        """Looks at the told renamings both ways."""
        for left, right in ((one, other), (other, one)):
            names = renaming(left, right)
            self.assertIsNotNone(names, told)
            self.assertIs(type(names), dict)
            self.assertIs(is_renaming(left, right, names), True, told)
            self.assertIs(is_renaming(right, left, inverse(names)), True, told)
            self.assertEqual(sorted(names), privates_in(left[1]))
            self.assertEqual(sorted(names.values()), privates_in(right[1]))
            self.assertIs(same(left, right), True, told)

    def are_unlike(self, one, other, told=None):
        for left, right in ((one, other), (other, one)):
            self.assertIsNone(renaming(left, right), told)
            self.assertIs(same(left, right), False, told)

    def test_texts_alike(self):
        for one, other in ALIKE:
            self.are_same(stand_of(one), stand_of(other), (one, other))

    def test_texts_unlike(self):
        for one, other in UNLIKE:
            self.are_unlike(stand_of(one), stand_of(other), (one, other))
            self.are_same(stand_of(one), stand_of(one))

    def test_alike_within_rooms_and_behind_others(self):
        for one, other in ALIKE + UNLIKE:
            left, right = stand_of("r[" + one.replace("0", "!0") + " | <s>]"), stand_of("r[<s> | " + other.replace("0", "!0") + "]")
            self.assertIs(same(left, right), bool(all_renamings(left, right)), (one, other))

    def test_next_does_not_count(self):
        one = stand_of("new k (k[] | <a>)")
        for number in (2, 3, 999999):
            self.are_same(one, (number, one[1]))
            self.assertIs(is_renaming(one, (number, one[1]), {"k.1": "k.1"}), True)

    def test_names_bound_by_different_parts_with_the_same_letters(self):
        # As rows that were done again come to stand beside one another.
        one = (1, (("hear", "x", (("say", "x"),)), ("hear", "x", (("in", "x", ()),)), ("hear", "x", (("say", "x"),))))
        other = (1, (("hear", "x", (("in", "x", ()),)), ("hear", "y", (("say", "y"),)), ("hear", "z", (("say", "z"),))))
        self.are_same(one, other)
        self.are_unlike(one, (1, one[1][:2] + one[1][1:2]))

    def test_dicts_that_are_none(self):
        one = stand_of("new a new b new c (a[<b>] | b[<c>] | <d>)")
        other = stand_of("new p new q new r (<d> | q[<p>] | r[<q>])")
        right = {"a.1": "r.3", "b.2": "q.2", "c.3": "p.1"}
        self.assertIs(is_renaming(one, other, right), True)
        self.assertEqual(renaming(one, other), right)
        for wrong in (
            {}, {"a.1": "r.3", "b.2": "q.2"}, {"a.1": "r.3", "c.3": "p.1"}, {**right, "d.4": "d.4"}, {**right, "d": "d"}, {**right, "a": "r"},
            {**right, "d.4": "p.1"}, {**right, "a.1": "q.2"}, {**right, "a.1": "q.2", "b.2": "r.3"}, {**right, "a.1": "a.1"}, {**right, "a.1": "d"},
            {**right, "a.1": "r.4"}, {**right, "a.1": ""}, {"a.1": "p.1", "b.2": "q.2", "c.3": "r.3"}, {"": ""}, {"a.1": "r.3", "b.2": "q.2", "": "p.1"},
            inverse(right), {"a": "r", "b": "q", "c": "p"}, {"a.1": "p.1", "b.2": "p.1", "c.3": "p.1"}, {"a.1": "r.3", "b.2": "q.2", "c.4": "p.1"},
        ):
            before = dict(wrong)
            self.assertIs(is_renaming(one, other, wrong), False, wrong)
            self.assertEqual(wrong, before)
        self.assertIs(is_renaming(other, one, inverse(right)), True)

    def test_dicts_of_stands_that_are_not_the_same(self):
        for other in ("new a <a> | b[]", "new a (<a> | a[] | <b>)", "new a a[<a>]", "new a new b (<a> | b[])", "0"):
            self.assertIs(is_renaming(stand_of("new a (<a> | a[])"), stand_of(other), {"a.1": "a.1"}), False)

    def test_dicts_whose_keys_or_values_are_others(self):
        one = stand_of("new a <a>")
        for wrong in ({"z": "a.1"}, {"a.2": "a.1"}, {"a": "a.1"}, {"": "a.1"}, {"a.1": "a.1", "b": "a.1"}):
            self.assertIs(is_renaming(one, one, wrong), False, wrong)
        # Here the row so called is the other one's, but by a name, or by one private name for two.
        self.assertIs(is_renaming(one, stand_of("<b>"), {"a.1": "b"}), False)
        two = stand_of("new a <a> | new b <b>")
        self.assertIs(is_renaming(two, stand_of("new c (<c> | <c>)"), {"a.1": "c.1", "b.2": "c.1"}), False)
        self.assertIs(is_renaming(two, two, {"a.1": "b.2", "b.2": "a.1"}), True)
        self.assertIs(is_renaming(two, two, {"a.1": "b.2"}), False)

    def test_without_private_names(self):
        one, other = stand_of("a[] | <b>"), stand_of("<b> | a[]")
        self.assertEqual(renaming(one, other), {})
        self.assertIs(is_renaming(one, other, {}), True)
        for wrong in ({"a": "a"}, {"a.1": "a.1"}, {"": ""}, {"a": "a", "b": "b"}):
            self.assertIs(is_renaming(one, other, wrong), False)
        self.assertIs(is_renaming(one, stand_of("<b>"), {}), False)
        self.assertEqual(renaming((1, ()), (9, ())), {})

    def test_exchanged_names_are_called_at_once(self):
        one = stand_of("new a new b (a[<b>] | c[<a>])")
        other = (3, recalled(one[1], {"a.1": "b.2", "b.2": "a.1"}))
        self.assertIs(is_renaming(one, other, {"a.1": "b.2", "b.2": "a.1"}), True)
        self.assertIs(is_renaming(one, other, {"a.1": "a.1", "b.2": "b.2"}), False)

    def test_a_told_dict_is_the_askers_own(self):
        one = stand_of("new a <a>")
        renaming(one, one).clear()
        self.assertEqual(renaming(one, one), {"a.1": "a.1"})
        renaming((1, ()), (1, ()))["a"] = "b"
        self.assertEqual(renaming((1, ()), (1, ())), {})
        self.assertEqual(renaming(one, one), renaming(one, one))

    def test_drawn_houses_rearranged(self):
        draw = drawn(4)
        for house in drawn_houses(5, 500):
            one = settled(house)
            self.are_same(one, settled(mixed(house, draw)), house)
            self.are_same(one, settled(called_otherwise(house)), house)
            self.are_same(one, settled(mixed(called_otherwise(house), draw)), house)

    def test_drawn_stands_by_trying_all_orders(self):
        draw = drawn(6)
        drawer = Drawer(draw, free=("a",), words=("room", "room", "say", "say", "in", "hear"), most=3)
        met = [0, 0]
        for _ in range(700):
            names = tuple([f"k.{k}" for k in range(1, draw.randrange(1, 5))])
            drawer.bound = 0
            one = (9, drawer.row(2, names))
            other = (9, drawer.row(2, names))
            if draw.randrange(2):
                order = list(names)
                draw.shuffle(order)
                other = (5, mixed(recalled(one[1], dict(zip(names, order))), draw))
                if draw.randrange(2) and privates_in(other[1]):
                    changed = draw.choice(privates_in(other[1]))
                    other = (5, other[1] + (("say", changed),))
                    one = (9, one[1] + (("say", draw.choice(privates_in(one[1]))),))
            wanted = all_renamings(one, other)
            told = renaming(one, other)
            met[bool(wanted)] += 1
            if wanted:
                self.assertIn(told, wanted)
            else:
                self.assertIsNone(told)
            self.assertIs(same(one, other), bool(wanted))
            here, there = privates_in(one[1]), privates_in(other[1])
            for order in itertools.permutations(there, len(here)):
                tried = dict(zip(here, order))
                self.assertIs(is_renaming(one, other, tried), tried in wanted)
        self.assertGreater(min(met), 150)


def called_otherwise(house):
    """The house with all its bound names called otherwise, those of news, too."""
    return recalled(house, {name: "z" + name for name in bound_in(house)})


def said(edges, more=0):
    """A stand of ten rooms with private names: each says those to which an edge leads, and itself some times more."""
    rooms = []
    for k in range(10):
        letters = [("say", f"p.{j + 1}") for i, j in edges if i == k] + [("say", f"p.{k + 1}")] * more
        rooms.append(("room", f"p.{k + 1}", tuple(letters)))
    return (11, tuple(rooms))


def rings(*sizes):
    """Edges of rings of these sizes."""
    told = []
    begin = 0
    for size in sizes:
        told += [(begin + k, begin + (k + 1) % size) for k in range(size)]
        begin += size
    return told


def both_ways(edges):
    return edges + [(j, i) for i, j in edges]


def turned(blocks):
    """A stand of rooms that each say some of ten names: each block, turned by 0 to 9."""
    rooms = [("room", "b", tuple(("say", f"p.{(k + turn) % 10 + 1}") for k in block)) for block in blocks for turn in range(10)]
    return (11, tuple(rooms))


def disguised(stand, draw):
    """The same stand, rearranged, with its private names called otherwise."""
    names = privates_in(stand[1])
    others = [f"{draw.choice('abp')}.{k + 1}" for k in range(len(names))]
    draw.shuffle(others)
    return (99, mixed(recalled(stand[1], dict(zip(names, others))), draw))


PETERSEN = both_ways(rings(5) + [(k, k + 5) for k in range(5)] + [(5 + k, 5 + (k + 2) % 5) for k in range(5)])
PRISM = both_ways(rings(5, 5) + [(k, k + 5) for k in range(5)])


class TenNames(unittest.TestCase):
    """Names that are hard to tell apart: each asked within a second."""

    def told_in_time(self, one, other, wanted):
        begin = time.perf_counter()
        names = renaming(one, other)
        taken = time.perf_counter() - begin
        self.assertIs(names is not None, wanted)
        if wanted:
            self.assertIs(is_renaming(one, other, names), True)
            self.assertEqual(len(names), 10)
        self.assertLess(taken, 1)

    def test_rings(self):
        draw = drawn(7)
        splits = ((10,), (5, 5), (2, 2, 2, 2, 2), (4, 6), (4, 2, 2, 2), (3, 3, 4), (1, 9), (1, 1, 1, 1, 1, 5), (1, 1, 1, 1, 1, 2, 3), (1,) * 10, (1, 1, 1, 1, 6),
                  (1, 1, 1, 1, 3, 3))
        for edges_of in (lambda sizes: rings(*sizes), lambda sizes: both_ways(rings(*sizes))):
            for one in splits:
                for other in splits:
                    self.told_in_time(said(edges_of(one)), disguised(said(edges_of(other)), draw), one == other)

    def test_many_letters_alike(self):
        draw = drawn(8)
        for more in (10, 90):
            for one in ((10,), (5, 5)):
                for other in ((10,), (5, 5)):
                    self.told_in_time(said(rings(*one), more), disguised(said(rings(*other), more), draw), one == other)
        letters = tuple([("say", f"p.{k % 10 + 1}") for k in range(1000)])
        self.told_in_time((11, letters), disguised((11, letters), draw), True)
        self.told_in_time((11, letters), (11, letters[:-1] + (("say", "p.1"),)), False)

    def test_other_regular_ones(self):
        draw = drawn(9)
        full = [(i, j) for i in range(10) for j in range(10) if i != j]
        pairs = both_ways([(k, k + 5) for k in range(5)])
        kinds = (PETERSEN, PRISM, both_ways(rings(10)) + pairs, both_ways(rings(4, 6)) + pairs)
        for one in kinds:
            for other in kinds:
                self.told_in_time(said(one), disguised(said(other), draw), one == other)
        for edges in (full, [], pairs):
            self.told_in_time(said(edges), disguised(said(edges), draw), True)

    def test_blocks_turned(self):
        # Names of which none can be told from another by what stands around it, but which can't all be exchanged.
        draw = drawn(10)
        for size in (2, 3, 4, 5):
            for many in (1, 2, 3, 5):
                for _ in range(8):
                    one = turned([draw.sample(range(10), size) for _ in range(many)])
                    other = turned([draw.sample(range(10), size) for _ in range(many)])
                    self.told_in_time(one, disguised(one, draw), True)
                    self.assertIs(same(one, other), same(other, disguised(one, draw)))

    def test_large_stands_with_names_that_can_be_exchanged(self):
        # Beside such that can't be told apart: all orders of the first ones would take too long here.
        draw = drawn(12)
        more = tuple([("room", name_number(j), (("say", f"p.{k}"),)) for j in range(40) for k in range(1, 11)])
        for sizes, others in (((1, 1, 1, 1, 1, 5), (1, 1, 1, 1, 1, 2, 3)), ((2, 2, 2, 2, 2), (4, 2, 2, 2)), ((2, 2, 2, 1, 1, 1, 1), (4, 2, 1, 1, 1, 1))):
            one, other = [(11, said(rings(*chosen))[1] + more) for chosen in (sizes, others)]
            self.told_in_time(one, disguised(other, draw), False)
            self.told_in_time(one, disguised(one, draw), True)

    def test_large_stands(self):
        draw = drawn(11)
        one = turned([draw.sample(range(10), 9) for _ in range(9)])
        other = turned([draw.sample(range(10), 9) for _ in range(9)])
        self.told_in_time(one, disguised(one, draw), True)
        self.told_in_time(other, disguised(other, draw), True)
        begin = time.perf_counter()
        same(one, other)
        self.assertLess(time.perf_counter() - begin, 1)

    def test_names_that_are_told_apart_by_two_chosen_ones(self):
        # Two graphs of sixteen names each, in which all names look alike, also with any one of them chosen.
        rook = [(a, b) for a in range(16) for b in range(16) if a != b and (a // 4 == b // 4 or a % 4 == b % 4)]
        ways = ((0, 1), (0, 3), (1, 0), (3, 0), (1, 1), (3, 3))
        other = [(4 * x + y, 4 * ((x + right) % 4) + (y + up) % 4) for x in range(4) for y in range(4) for right, up in ways]
        beside = [(a + 16, b + 16) for a, b in other], [(a + 16, b + 16) for a, b in rook]
        one, turned_round = edges_said(rook + beside[0]), edges_said(other + beside[1])
        self.assertIs(is_renaming(one, turned_round, renaming(one, turned_round)), True)
        self.assertIsNone(renaming(edges_said(rook), edges_said(other)))


def edges_said(edges):
    """A stand in which a room of the one name says the other one, for each edge."""
    return (99, tuple([("room", f"p.{a + 10}", (("say", f"p.{b + 10}"),)) for a, b in edges]))


if __name__ == "__main__":
    unittest.main()
