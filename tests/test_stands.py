"""[3.1], [3.2], [3.3] stands, what is freed and settled, private names."""

import unittest

from samples import any_things, chain, drawn_houses, wide
from walkrooms.errors import NoHouse
from walkrooms.houses import called, free_in, is_house
from walkrooms.names import is_private
from walkrooms.reading import read
from walkrooms.stands import freed, privates_in, settled
from walkrooms.texts import shown

# A house's text, next behind it, and its stand's text.
SETTLED = (
    ("0", 1, "0"),
    ("a[] | <b>", 1, "a[] | <b>"),
    ("new x 0", 2, "0"),
    ("new x x[]", 2, "x.1[]"),
    ("new x (x[] | <x> | <a>)", 2, "x.1[] | <x.1> | <a>"),
    # At the front, in the middle, at the end.
    ("new x <x> | <a> | <b>", 2, "<x.1> | <a> | <b>"),
    ("<a> | new x (<x> | <c>) | <b>", 2, "<a> | <x.1> | <c> | <b>"),
    ("<a> | <b> | new x <x>", 2, "<a> | <b> | <x.1>"),
    ("<a> | new x 0 | <b>", 2, "<a> | <b>"),
    # Several, and one within another: numbers as they are met.
    ("new x <x> | new y <y> | new z <z>", 4, "<x.1> | <y.2> | <z.3>"),
    ("new z new y new x (<x> | <y> | <z>)", 4, "<x.3> | <y.2> | <z.1>"),
    ("new a (<a> | new b (<b> | <a>) | new c <c>) | new d <d>", 5, "<a.1> | <b.2> | <a.1> | <c.3> | <d.4>"),
    # In rooms, and rooms in rooms: a room's row at once when the room is met.
    ("a[new x x[]]", 2, "a[x.1[]]"),
    ("a[b[new x <x>] | new y <y>] | new z <z>", 4, "a[b[<x.1>] | <y.2>] | <z.3>"),
    ("new z z[new x <x> | <z>] | a[b[c[new y (<y> | d[new w w[<y>]])]]]", 5, "z.1[<x.2> | <z.1>] | a[b[c[<y.3> | d[w.4[<y.3>]]]]]"),
    ("new r r[new s s[new t t[<r> | <s>]]]", 4, "r.1[s.2[t.3[<r.1> | <s.2>]]]"),
    # What waits and what is done again stays, but is called otherwise.
    ("in a.new x <x>", 1, "in a.new x <x>"),
    ("out a.new x <x>", 1, "out a.new x <x>"),
    ("open a.new x <x>", 1, "open a.new x <x>"),
    ("(y).new x <x>", 1, "(y).new x <x>"),
    ("!new x <x>", 1, "!new x <x>"),
    ("a[in b.new x <x> | !new y <y> | (z).new w <w>]", 1, "a[in b.new x <x> | !new y <y> | (z).new w <w>]"),
    ("in a.b[new x <x>]", 1, "in a.b[new x <x>]"),
    ("new k (in a.new x (<x> | <k>) | !k[new y <k>] | (z).new w <k>)", 2, "in a.new x (<x> | <k.1>) | !k.1[new y <k.1>] | (z).new w <k.1>"),
    ("new k (in k.out k.open k | (h).(<h> | <k>) | !(<k> | k[in k]))", 2, "in k.1.out k.1.open k.1 | (h).(<h> | <k.1>) | !(<k.1> | k.1[in k.1])"),
)


def row_of(text):
    """A row, from a text."""
    return read(text)


class Settled(unittest.TestCase):
    def test_settled_and_written(self):
        for text, number, told in SETTLED:
            stand = settled(read(text))
            self.assertEqual(stand[0], number, text)
            self.assertEqual(shown(stand[1]), told)
            self.assertIs(type(stand), tuple)
            self.assertIs(type(stand[0]), int)
            self.assertIs(type(stand[1]), tuple)
            self.assertEqual(len(stand), 2)

    def test_part_by_part(self):
        house = (("say", "a"), ("new", "x", (("room", "x", (("new", "y", (("say", "y"), ("in", "x", ()))),)),)), ("say", "b"))
        self.assertEqual(settled(house), (3, (("say", "a"), ("room", "x.1", (("say", "y.2"), ("in", "x.1", ()))), ("say", "b"))))

    def test_many_news(self):
        house = read(" | ".join("new " + chr(97 + k) + " <" + chr(97 + k) + ">" for k in range(26)))
        number, row = settled(house)
        self.assertEqual(number, 27)
        self.assertEqual(row, tuple(("say", f"{chr(97 + k)}.{k + 1}") for k in range(26)))
        number, row = settled(chain(("new",), 24))
        self.assertEqual((number, row), (25, ()))

    def test_drawn_houses(self):
        for house in drawn_houses(2, 400):
            number, row = settled(house)
            self.assertEqual(open_news(row), 0)
            self.assertEqual(number, 1 + open_news(house))
            for calling in free_in(row):
                if is_private(calling):
                    self.assertLess(int(calling.partition(".")[2]), number)
                else:
                    self.assertIn(calling, free_in(house))
            self.assertEqual(freed(number, row), (number, row))

    def test_what_is_no_house(self):
        for thing in any_things():
            if not is_house(thing):
                with self.assertRaises(NoHouse):
                    settled(thing)
        for row in ((("say", "a.1"),), (("hear", "x", ()), ("say", "x")), (("new", "x", ()), ("new", "x", ())), wide(401), chain(("room",), 25),
                    [("say", "a")], (["say", "a"],), (("room", "a", [])), "a[]", (1, ()), (1, (("say", "a"),)), (("room", "a"),), (("say", True),)):
            with self.assertRaises(NoHouse):
                settled(row)
        self.assertEqual(settled(()), (1, ()))
        self.assertEqual(settled(wide(400)), (1, wide(400)))

    def test_told_alike_and_the_house_stays(self):
        for text, number, told in SETTLED:
            house = read(text)
            before = repr(house)
            self.assertEqual(settled(house), settled(house))
            self.assertEqual(repr(house), before)


def open_news(row):
    """How many news are met."""
    return sum(open_news(one[2]) + (one[0] == "new") for one in row if one[0] in ("new", "room"))


class Freed(unittest.TestCase):
    def test_from_another_next_on(self):
        row = row_of("new x (<x> | a[new y y[]]) | <b>")
        self.assertEqual(freed(1, row), (3, (("say", "x.1"), ("room", "a", (("room", "y.2", ()),)), ("say", "b"))))
        self.assertEqual(freed(7, row), (9, (("say", "x.7"), ("room", "a", (("room", "y.8", ()),)), ("say", "b"))))
        self.assertEqual(freed(99999, row)[0], 100001)
        self.assertEqual(shown(freed(99999, row)[1]), "<x.99999> | a[y.100000[]] | <b>")

    def test_without_news_all_stays(self):
        for text in ("0", "a[b[] | <c>]", "in a.new x <x>", "!new x 0", "(y).new x 0"):
            self.assertEqual(freed(5, row_of(text)), (5, row_of(text)))

    def test_again_from_what_it_told(self):
        for house in drawn_houses(3, 200):
            number, row = freed(4, house)
            self.assertEqual(freed(number, row), (number, row))
            further, second = freed(number, house)
            self.assertEqual(further - number, number - 4)
            self.assertEqual(set(privates_in(row)) & set(privates_in(second)), set())

    def test_rests_whose_bound_names_are_called_otherwise(self):
        rest = (("say", "x"), ("new", "y", (("room", "y", (("say", "x"),)),)))
        self.assertEqual(freed(4, called(rest, "x", "k.3")), (5, (("say", "k.3"), ("room", "y.4", (("say", "k.3"),)))))
        self.assertEqual(freed(4, called(rest, "x", "b")), (5, (("say", "b"), ("room", "y.4", (("say", "b"),)))))
        self.assertEqual(freed(4, called(rest, "x", "y.2")), (5, (("say", "y.2"), ("room", "y.4", (("say", "y.2"),)))))

    def test_kinds_of_what_is_told(self):
        for number, row in (freed(1, ()), freed(3, row_of("new x a[new y <y>]"))):
            self.assertIs(type(number), int)
            self.assertIs(type(row), tuple)


class Privates(unittest.TestCase):
    def test_in_all_places(self):
        for text in ("k[]", "in k", "out k", "open k", "<k>", "a[<k>]", "in a.<k>", "(x).<k>", "!<k>", "(x).!in a.b[out k]", "in k.in k.<k>"):
            stand = settled(read("new k " + text))
            self.assertEqual(privates_in(stand[1]), ["k.1"], text)

    def test_sorted_as_texts_each_once(self):
        row = (("say", "a.2"), ("say", "a.10"), ("room", "b.1", (("in", "a.10", (("out", "ab.1", ()),)), ("say", "a.2"))), ("say", "a.1"), ("open", "a.100", ()))
        told = ["a.1", "a.10", "a.100", "a.2", "ab.1", "b.1"]
        self.assertEqual(privates_in(row), told)
        self.assertEqual(privates_in(row[::-1]), told)

    def test_names_are_none(self):
        self.assertEqual(privates_in(()), [])
        self.assertEqual(privates_in(row_of("a[b[] | (x).<x>] | new k k[]")), [])
        self.assertEqual(privates_in((("say", "a"), ("say", "a.3"), ("hear", "x", (("say", "x"), ("in", "b.1", ()))))), ["a.3", "b.1"])

    def test_the_list_is_the_askers_own(self):
        row = (("say", "a.2"), ("say", "b.1"))
        first = privates_in(row)
        self.assertIs(type(first), list)
        first.clear()
        self.assertEqual(privates_in(row), ["a.2", "b.1"])

    def test_stands_are_written_with_private_names_as_they_are(self):
        stand = settled(read("new key (key[in key.<key>] | (x).open key)"))
        self.assertEqual(shown(stand[1]), "key.1[in key.1.<key.1>] | (x).open key.1")


if __name__ == "__main__":
    unittest.main()
