"""[5.1], [5.2] paths, steps, and the stands behind them."""

import unittest

import plain
from samples import any_things, drawn, drawn_houses, others
from walkrooms.errors import NoStep
from walkrooms.reading import read
from walkrooms.stands import settled
from walkrooms.steps import row_at, step_done, steps_of
from walkrooms.texts import shown

# A house's text, a step of its stand, next and the stand's text behind it.
DONE = (
    # Into a neighbour: behind and ahead of the room, the deed at any place.
    ("a[in b] | b[]", ("in", (), 0, 0, 1), 1, "b[a[]]"),
    ("b[] | a[in b]", ("in", (), 1, 0, 0), 1, "b[a[]]"),
    ("<s> | a[<c> | in b.<d> | <e>] | <t> | b[<f>] | <u>", ("in", (), 1, 1, 3), 1, "<s> | <t> | b[<f> | a[<c> | <e> | <d>]] | <u>"),
    ("<s> | b[<f>] | <t> | a[in b.(<d> | <g>) | <c>] | <u>", ("in", (), 3, 0, 1), 1, "<s> | b[<f> | a[<c> | <d> | <g>]] | <t> | <u>"),
    ("a[in a] | a[in a.<b>]", ("in", (), 1, 0, 0), 1, "a[in a | a[<b>]]"),
    ("a[in a] | a[in a.<b>]", ("in", (), 0, 0, 1), 1, "a[in a.<b> | a[]]"),
    ("a[in b | in c] | c[] | b[]", ("in", (), 0, 1, 1), 1, "c[a[in b]] | b[]"),
    ("a[in b | in c] | c[] | b[]", ("in", (), 0, 0, 2), 1, "c[] | b[a[in c]]"),
    ("a[in b] | b[] | b[<c>]", ("in", (), 0, 0, 2), 1, "b[] | b[<c> | a[]]"),
    ("a[in b.new x (x[] | !<x>)] | b[]", ("in", (), 0, 0, 1), 2, "b[a[x.1[] | !<x.1>]]"),
    ("new y y[] | a[in b.(c[new x <x>] | new z in z)] | b[]", ("in", (), 1, 0, 2), 4, "y.1[] | b[a[c[<x.2>] | in z.3]]"),
    ("new k (a[in k] | k[])", ("in", (), 0, 0, 1), 2, "k.1[a[]]"),
    ("r[s[<t> | a[in b] | b[]]]", ("in", (0, 0), 1, 0, 2), 1, "r[s[<t> | b[a[]]]]"),
    ("<t> | r[<t> | s[b[] | a[in b.in b]] | <u>] | <v>", ("in", (1, 1), 1, 0, 0), 1, "<t> | r[<t> | s[b[a[in b]]] | <u>] | <v>"),
    # Out of the room around.
    ("b[a[out b]]", ("out", (), 0, 0, 0), 1, "b[] | a[]"),
    ("<s> | b[<c> | a[<d> | out b.<e> | <f>] | <g>] | <t>", ("out", (), 1, 1, 1), 1, "<s> | b[<c> | <g>] | <t> | a[<d> | <f> | <e>]"),
    ("b[a[out b.new x <x>] | a[out b]]", ("out", (), 0, 0, 0), 2, "b[a[out b]] | a[<x.1>]"),
    ("b[a[out b.new x <x>] | a[out b]]", ("out", (), 0, 1, 0), 1, "b[a[out b.new x <x>]] | a[]"),
    ("b[b[out b.(in b | <c>)]]", ("out", (), 0, 0, 0), 1, "b[] | b[in b | <c>]"),
    ("r[<t> | s[b[a[out b]]] | <u>]", ("out", (0, 1), 0, 0, 0), 1, "r[<t> | s[b[] | a[]] | <u>]"),
    ("s[b[a[out b.out s]]]", ("out", (0,), 0, 0, 0), 1, "s[b[] | a[out s]]"),
    ("new k k[a[out k]]", ("out", (), 0, 0, 0), 2, "k.1[] | a[]"),
    # A neighbour opened: the deed ahead of the room and behind it.
    ("open a | a[]", ("open", (), 0, 1), 1, "0"),
    ("a[<b> | c[]] | open a", ("open", (), 1, 0), 1, "<b> | c[]"),
    ("<s> | open a.(<d> | <e>) | <t> | a[<b> | <c>] | <u>", ("open", (), 1, 3), 1, "<s> | <t> | <u> | <d> | <e> | <b> | <c>"),
    ("<s> | a[<b> | <c>] | <t> | open a.<d> | <u>", ("open", (), 3, 1), 1, "<s> | <t> | <u> | <d> | <b> | <c>"),
    ("open a.new x <x> | a[in b.new y <y>] | a[]", ("open", (), 0, 1), 2, "a[] | <x.1> | in b.new y <y>"),
    ("r[s[open a.<c> | a[<b>]] | <t>]", ("open", (0, 0), 0, 1), 1, "r[s[<c> | <b>] | <t>]"),
    ("new k (open k | k[<k>])", ("open", (), 0, 1), 2, "<k.1>"),
    # A letter heard, ahead of and behind the hearer.
    ("<a> | (x)", ("letter", (), 0, 1), 1, "0"),
    ("(x).x[] | <a>", ("letter", (), 1, 0), 1, "a[]"),
    ("<s> | (x).(<x> | in x) | <t> | !0", ("letter", (), 0, 1), 1, "<t> | !0 | <s> | in s"),
    ("<s> | (x).(<x> | in x) | <t> | !0", ("letter", (), 2, 1), 1, "<s> | !0 | <t> | in t"),
    ("<a> | (x).new k k[<x> | <k>]", ("letter", (), 0, 1), 2, "k.1[<a> | <k.1>]"),
    ("new j <j> | (x).new k (k[<x>] | x[<k>])", ("letter", (), 0, 1), 3, "k.2[<j.1>] | j.1[<k.2>]"),
    ("<a> | (x).(x[in x.out x.open x] | (y).(<x> | <y>) | !<x> | in b.new k k[<x>])", ("letter", (), 0, 1), 1,
     "a[in a.out a.open a] | (y).(<a> | <y>) | !<a> | in b.new k k[<a>]"),
    ("r[s[(x).<x> | <a>] | <t>]", ("letter", (0, 0), 1, 0), 1, "r[s[<a>] | <t>]"),
    # Done again.
    ("!0", ("again", (), 0), 1, "!0"),
    ("<s> | !a[<b>] | <t>", ("again", (), 1), 1, "<s> | !a[<b>] | <t> | a[<b>]"),
    ("!new x (<x> | a[new y y[]])", ("again", (), 0), 3, "!new x (<x> | a[new y y[]]) | <x.1> | a[y.2[]]"),
    ("!!<a>", ("again", (), 0), 1, "!!<a> | !<a>"),
    ("!(x).<x>", ("again", (), 0), 1, "!(x).<x> | (x).<x>"),
    ("r[s[!<a>] | <t>]", ("again", (0, 0), 0), 1, "r[s[!<a> | <a>] | <t>]"),
)
# A house's text, and all steps of its stand.
ALL_STEPS = (
    ("0", []),
    ("a[] | b[] | in a | out a | open c | <a>", []),
    ("(x) | a[<b>]", []),
    ("a[in a]", []),
    ("a[in a | in b] | in a", []),
    ("b[a[out c]]", []),
    ("a[out b] | b[]", []),
    ("b[out b]", []),
    ("b[c[a[out b]]]", []),
    ("a[in b.in c] | c[]", []),
    ("open a.open b | b[]", []),
    ("a[open a]", []),
    ("in a.(<b> | (x)) | !0", [("again", (), 1)]),
    ("a[in a] | a[]", [("in", (), 0, 0, 1)]),
    ("a[in b | in b] | b[in a] | b[out a]",
     [("in", (), 0, 0, 1), ("in", (), 0, 0, 2), ("in", (), 0, 1, 1), ("in", (), 0, 1, 2), ("in", (), 1, 0, 0)]),
    ("<a> | (x) | <b> | (y)", [("letter", (), 0, 1), ("letter", (), 0, 3), ("letter", (), 2, 1), ("letter", (), 2, 3)]),
    ("open a | a[] | a[] | open a | open b", [("open", (), 0, 1), ("open", (), 0, 2), ("open", (), 3, 1), ("open", (), 3, 2)]),
    ("a[a[out a | out b] | b[out a]] | !0 | open a | <c> | (x)",
     [("again", (), 1), ("letter", (), 3, 4), ("open", (), 2, 0), ("out", (), 0, 0, 0), ("out", (), 0, 1, 0)]),
    ("r[!0 | s[!0 | t[!0]]] | !0", [("again", (), 1), ("again", (0,), 0), ("again", (0, 1), 0), ("again", (0, 1, 1), 0)]),
    ("new k (a[in k] | k[]) | b[in k]".replace("b[in k]", "b[in j]") + " | j[]", [("in", (), 0, 0, 1), ("in", (), 2, 0, 3)]),
)


def stand_of(text):
    """The stand of a house's text."""
    return settled(read(text))


def drawn_stands(seed, many):
    """Stands from drawn houses, some steps on."""
    draw = drawn(seed)
    told = []
    for house in drawn_houses(seed, many, least_deep=4):
        stand = settled(house)
        for _ in range(draw.randrange(6)):
            steps = plain.steps_tried(stand)
            if steps:
                stand = plain.behind(stand, draw.choice(steps))
        told.append(stand)
    return told


class Steps(unittest.TestCase):
    def test_each_of_the_five(self):
        for text, step, number, told in DONE:
            stand = stand_of(text)
            self.assertIn(step, steps_of(stand), text)
            after = step_done(stand, step)
            self.assertEqual((after[0], shown(after[1])), (number, told), (text, step))
            self.assertIs(type(after), tuple)
            self.assertEqual(after, plain.behind(stand, step))

    def test_each_of_the_five_some_rooms_deep(self):
        for text, step, number, told in DONE:
            for before, path, after in (("r[", (0,), "]"), ("<t> | r[<t> | in u | s[", (1, 2), "] | <u>] | r[]")):
                stand = stand_of(before + text + after)
                deeper = (step[0], path + step[1], *step[2:])
                self.assertIn(deeper, steps_of(stand))
                inner = "" if told == "0" else told
                self.assertEqual(shown(step_done(stand, deeper)[1]), before + inner + after)
                self.assertEqual(step_done(stand, deeper)[0], number)

    def test_part_by_part(self):
        stand = (7, (("say", "s.1"), ("room", "a", (("in", "b.6", (("new", "x", (("say", "x"),)), ("say", "c"))), ("say", "d"))), ("room", "b.6", ())))
        self.assertEqual(step_done(stand, ("in", (), 1, 0, 2)),
                         (8, (("say", "s.1"), ("room", "b.6", (("room", "a", (("say", "d"), ("say", "x.7"), ("say", "c"))),)))))

    def test_next_goes_on_from_the_stand(self):
        stand = stand_of("!new k <k> | (x).new j x[<j>]")
        for number in (2, 3, 4):
            stand = step_done(stand, ("again", (), 0))
            self.assertEqual(stand[0], number)
        self.assertEqual(shown(stand[1]), "!new k <k> | (x).new j x[<j>] | <k.1> | <k.2> | <k.3>")
        self.assertEqual(shown(step_done(stand, ("letter", (), 3, 1))[1]), "!new k <k> | <k.1> | <k.3> | k.2[<j.4>]")

    def test_all_steps_sorted(self):
        for text, steps in ALL_STEPS:
            self.assertEqual(steps_of(stand_of(text)), steps, text)
            self.assertEqual(steps, sorted(steps))

    def test_sorted_as_tuples(self):
        text = " | ".join(["a[in z]"] * 12 + ["z[<b> | (x)]"] + ["open a"] * 2)
        steps = steps_of(stand_of(text))
        self.assertEqual(len(steps), 12 + 24 + 1)
        self.assertEqual(steps, sorted(steps))
        self.assertEqual(steps[1][2], 1)
        self.assertEqual(steps[2][2], 2)

    def test_drawn_stands(self):
        many = {}
        for stand in drawn_stands(12, 900):
            before = repr(stand)
            steps = steps_of(stand)
            self.assertEqual(steps, plain.steps_tried(stand))
            for step in steps:
                many[step[0]] = many.get(step[0], 0) + 1
                self.assertEqual(step_done(stand, step), plain.behind(stand, step), (stand, step))
            self.assertEqual(repr(stand), before)
        for word in ("in", "out", "open", "letter", "again"):
            self.assertGreater(many[word], 60, many)

    def test_the_list_is_the_askers_own(self):
        stand = stand_of("a[in b] | b[] | !0")
        first = steps_of(stand)
        wanted = list(first)
        self.assertIs(type(first), list)
        first.clear()
        self.assertEqual(steps_of(stand), wanted)
        for step in wanted:
            self.assertIs(type(step), tuple)
            self.assertIs(type(step[1]), tuple)

    def test_many_letters(self):
        stand = settled((("say", "a"),) * 100 + (("hear", "x", ()),) * 1)
        self.assertEqual(len(steps_of(stand)), 100)


class NoSteps(unittest.TestCase):
    STAND = "a[in b | <c> | (x)] | b[c[out b]] | open a | <d> | (y) | !0"

    def refused(self, stand, step):
        before = repr(stand)
        with self.assertRaises(NoStep, msg=repr(step)) as caught:
            step_done(stand, step)
        self.assertEqual(caught.exception.at, 0)
        self.assertEqual(repr(stand), before)

    def test_places_that_are_none(self):
        stand = stand_of(self.STAND)
        right = steps_of(stand)
        self.assertEqual([step[0] for step in right], ["again", "in", "letter", "letter", "open", "out"])
        for step in right:
            for at in range(2, len(step)):
                for place in (-1, -2, -6, 6, 7, 100, 10 ** 30, -10 ** 30):
                    self.refused(stand, step[:at] + (place,) + step[at + 1:])
                for place in others() + ["0", "1", "", (0,), (), [0], 0.0, 1.0]:
                    if isinstance(place, int) and not isinstance(place, bool):
                        continue
                    self.refused(stand, step[:at] + (place,) + step[at + 1:])

    def test_a_truth_for_a_place_and_a_list_for_a_path(self):
        stand = stand_of("b[] | a[in b | in b] | r[a[in b] | b[]] | s[r[!0]]")
        for step in (("in", (), True, False, False), ("in", (), 1, False, 0), ("in", (), True, 0, 0), ("in", (), 1, 0, False), ("in", [], 1, 0, 0),
                     ("in", [2], 0, 0, 1), ("in", (2,), False, 0, 1), ("in", (2,), 0, 0, True), ("in", (2.0,), 0, 0, 1), ("in", ("2",), 0, 0, 1),
                     ("in", ((2,),), 0, 0, 1), ("in", 2, 0, 0, 1), ("in", None, 1, 0, 0), ("in", "", 1, 0, 0), ("in", {}, 1, 0, 0), ("in", b"", 1, 0, 0),
                     ("again", (3, False), 0), ("again", (3, 0), False), ("again", [3, 0], 0), ["again", (3, 0), 0], ["in", (), 1, 0, 0]):
            self.refused(stand, step)
        step_done(stand, ("in", (), 1, 0, 0))
        step_done(stand, ("in", (2,), 0, 0, 1))
        step_done(stand, ("again", (3, 0), 0))

    def test_all_places_of_all_words(self):
        stand = stand_of(self.STAND)
        right = steps_of(stand)
        paths = ((), (0,), (1,), (1, 0), (2,), (5,), (1, 0, 0), (-5,), (6,))
        places = range(-1, 7)
        for path in paths:
            for word in ("in", "out", "open", "letter", "again"):
                for k in places:
                    for j in places:
                        for d in places:
                            step = {"in": (k, d, j), "out": (k, j, d), "open": (k, j), "letter": (k, j), "again": (k,)}[word]
                            step = (word, path, *step)
                            if step in right:
                                step_done(stand, step)
                            else:
                                self.refused(stand, step)

    def test_other_words_too_few_and_too_many(self):
        stand = stand_of(self.STAND)
        for step in steps_of(stand):
            for word in ("", "say", "hear", "room", "new", "IN", "in ", "letters", "in", "out", "open", "letter", "again", b"in", None, 0, ["in"], ("in",)):
                if word != step[0]:
                    self.refused(stand, (word,) + step[1:])
            for size in range(len(step)):
                self.refused(stand, step[:size])
            for more in (0, 1, (), None, True):
                self.refused(stand, step + (more,))
            self.refused(stand, list(step))
            self.refused(stand, (step,))
            self.refused(stand, step[::-1])
            self.refused(stand, step[1:])
            self.refused(stand, repr(step))

    def test_things_of_every_kind(self):
        for stand in (stand_of(self.STAND), stand_of("0")):
            for thing in any_things():
                self.refused(stand, thing)
                for step in (("in", (), 0, 0, thing), ("in", thing, 0, 0, 1), (thing, (), 0, 0, 1), ("again", (thing,), 0), ("again", (), thing)):
                    # What is like a right step by Python's == may be that step, as some of the things are whole numbers.
                    if step not in steps_of(stand):
                        self.refused(stand, step)

    def test_a_room_does_not_walk_into_itself(self):
        for text in ("a[in a]", "<s> | a[in a | in a]", "r[a[in a.<b>]]"):
            stand = stand_of(text)
            self.assertEqual(steps_of(stand), [])
            for path in ((), (0,), (1,)):
                for k in range(3):
                    for d in range(3):
                        self.refused(stand, ("in", path, k, d, k))

    def test_rooms_called_otherwise(self):
        for text, step in (("a[in b] | c[]", ("in", (), 0, 0, 1)), ("b[a[out c]]", ("out", (), 0, 0, 0)), ("open a | b[]", ("open", (), 0, 1)),
                           ("new k (a[in b] | k[])", ("in", (), 0, 0, 1)), ("new k a[in k] | b[]", ("in", (), 0, 0, 1)),
                           ("new k open k | new j j[]", ("open", (), 0, 1)), ("a[out b] | b[]", ("out", (), 0, 0, 0)),
                           ("in a.<b> | (x)", ("letter", (), 0, 1)), ("b[a[in b]]", ("out", (), 0, 0, 0)), ("a[out b] | b[]", ("in", (), 0, 0, 1))):
            self.refused(stand_of(text), step)


class Paths(unittest.TestCase):
    def test_rows_at_paths(self):
        stand = stand_of("<a> | b[c[] | d[<e>]] | in f.g[<h>] | new k k[!<k>]")
        for path, told in (((), shown(stand[1])), ((1,), "c[] | d[<e>]"), ((1, 0), "0"), ((1, 1), "<e>"), ((3,), "!<k.1>")):
            self.assertEqual(shown(row_at(stand, path)), told, path)
            self.assertIs(type(row_at(stand, path)), tuple)
        self.assertEqual(row_at((1, ()), ()), ())

    def test_paths_that_lead_to_none(self):
        stand = stand_of("<a> | b[c[] | d[<e>]] | in f.g[<h>] | !b[]")
        for path in ((0,), (2,), (2, 0), (3,), (3, 0), (4,), (100,), (1, 2), (1, 0, 0), (1, 1, 0), (1, 1, 0, 0), (10 ** 40,), (0, 1)):
            self.assertIsNone(row_at(stand, path), path)
        self.assertIsNone(row_at((1, ()), (0,)))

    def test_negative_places_lead_to_no_row(self):
        stand = stand_of("a[b[c[]]] | b[b[]]")
        for path in ((-1,), (-2,), (-3,), (0, -1), (0, 0, -1), (-1, 0), (-2, 0, 0), (1, -1), (-10 ** 30,)):
            self.assertIsNone(row_at(stand, path), path)

    def test_paths_of_all_rows(self):
        for stand in drawn_stands(13, 200):
            for path, row in plain.all_rows(stand[1]):
                self.assertEqual(row_at(stand, path), row)


if __name__ == "__main__":
    unittest.main()
