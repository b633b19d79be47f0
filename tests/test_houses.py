"""[1.2], [1.3] rows, parts, houses, how many parts, how deep, free callings and bound names."""

import unittest

from samples import BINDERS, LETTERS, THREES, USERS, chain, each_place, name_number, nested, others, part, wide
from walkrooms.houses import bound_in, deep, free_in, is_house, parts_in

NO_CALLINGS = (
    "", "in", "out", "open", "new", "abcdefg", "A", "aB", "a1", "1", "a b", "a.", ".1", "a.0", "a\n",
    "a.1", "key.3", "abcdef.999999",
)
# The example of 2.1, and one with each of the eight parts.
SMALL = (("room", "a", (("room", "b", ()), ("say", "c"))),)
ALL_EIGHT = (
    ("room", "a", (("in", "b", (("out", "c", ()),)), ("open", "d", (("say", "e"),)))),
    ("hear", "x", (("say", "x"), ("new", "k", (("room", "k", ()), ("say", "x"), ("open", "a", ()))))),
    ("again", (("say", "f"), ("again", ()))),
)


def spread(many):
    """A row with many parts, from 24 on, of all words, in many places and at many depths."""
    row = chain(("room", "in", "hear", "again", "out", "new", "open"), 20)
    left = many - 20
    bound = [("hear", "x" + LETTERS[k], ()) for k in range(min(10, left))]
    rooms = []
    left -= len(bound)
    while left > 0:
        rooms.append(("room", "w", wide(min(9, left - 1))))
        left -= 1 + len(rooms[-1][2])
    return (*rooms, *row, *bound)


class Parts(unittest.TestCase):
    def test_rows_without_parts_and_with_each_of_the_eight(self):
        self.assertIs(is_house(()), True)
        for word in THREES:
            self.assertIs(is_house(((word, "n", ()),)), True, word)
        self.assertIs(is_house((("say", "n"),)), True)
        self.assertIs(is_house((("again", ()),)), True)
        self.assertIs(is_house(SMALL), True)
        self.assertIs(is_house(ALL_EIGHT), True)

    def test_a_thing_too_many_or_too_few(self):
        wrong = [(), ("say",), ("say", "n", ()), ("say", "n", "m"), ("say", ()), ("again",), ("again", (), ()), ("again", "n", ()),
                 ("again", "n")]
        for word in THREES:
            wrong += [(word,), (word, "n"), (word, ()), (word, "n", (), ()), (word, "n", "m", ()), (word, "n", (), "n")]
        self.check_no_part(wrong)

    def test_another_word(self):
        wrong = []
        for word in ("", "walk", "Room", "ROOM", "rooms", "room ", " in", "IN", "into", "hears", "a", "n", "!", "<>", "row"):
            wrong += [(word, "n", ()), (word, "n"), (word, ()), (word,)]
        for word in (b"room", b"in", None, True, 0, 3, 1.5, ("room",), ["room"], {}, {"room": 1}, set(), (), [], object()):
            wrong += [(word, "n", ()), (word, "n"), (word, ()), (word,)]
        self.check_no_part(wrong)

    def test_things_in_another_order(self):
        wrong = [("n", "room", ()), ((), "n", "room"), ("n", "say"), ((), "again")]
        for word in THREES:
            wrong += [(word, (), "n"), ("n", word, ()), ("n", (), word)]
        self.check_no_part(wrong)

    def test_things_of_other_kinds_for_a_part(self):
        self.check_no_part(others() + ["", "a", "in", "say", "abc", ["say", "a"], ["room", "a", ()], ["again", ()], ("a", "b")])

    def test_lists_and_others_for_a_row(self):
        for row in others() + ["", "a", "0", [("say", "a")], [()], {("say", "a"): 1}, {("say", "a")}, ("say", "a")]:
            self.assertIs(is_house(row), False, repr(row))
            for word in THREES:
                self.assertIs(is_house(((word, "n", row),)), False, (word, repr(row)))
                self.assertIs(is_house((SMALL[0], (word, "n", row), ("say", "s"))), False, (word, repr(row)))
                self.assertIs(is_house((("room", "a", ((word, "n", row), SMALL[0])),)), False, (word, repr(row)))
            self.assertIs(is_house((("again", row),)), False, repr(row))
            self.assertIs(is_house((("room", "a", ()), ("again", row), SMALL[0])), False, repr(row))

    def test_a_calling_that_is_no_name(self):
        for calling in list(NO_CALLINGS) + others() + [(), ("a",), ("say", "a")]:
            wrong = [(word, calling, ()) for word in THREES] + [("say", calling)]
            self.check_no_part(wrong)

    def test_each_name_may_be_a_calling(self):
        for name in ("a", "z", "abcdef", "room", "say", "hear", "again", "inn", "news"):
            for word in THREES:
                self.assertIs(is_house(((word, name, ()),)), True, (word, name))
            self.assertIs(is_house((("say", name),)), True, name)

    def check_no_part(self, things):
        """Puts each thing to the first, a middle and the last place of rows, and into each kind of rest."""
        for thing in things:
            self.assertIs(is_house((thing,)), False, repr(thing))
            self.assertIs(is_house((("say", "s"), thing, ("say", "s"))), False, repr(thing))
            self.assertIs(is_house((("room", "s", ()), ("say", "s"), thing)), False, repr(thing))
            for word in THREES:
                self.assertIs(is_house(((word, "s", (thing,)),)), False, (word, repr(thing)))
                self.assertIs(is_house((("say", "t"), (word, "s", (("say", "t"), thing)))), False, (word, repr(thing)))
            self.assertIs(is_house((("again", (thing,)),)), False, repr(thing))
            self.assertIs(is_house((("again", (("again", (("say", "t"), thing)),)),)), False, repr(thing))


class OfAnything(unittest.TestCase):
    def test_things_of_every_kind(self):
        for thing in others() + ["", "a", "a[]", "0", b"0"]:
            self.assertIs(is_house(thing), False, repr(thing))
            for row in ((thing,), ((thing,),), ((thing, thing),), ((thing, thing, thing),), (((thing,),),), (thing, thing)):
                self.assertIs(is_house(row), False, repr(row))

    def test_tuples_and_lists_within_one_another(self):
        for within in ((), [], "a", None, ("say", "a")):
            for many in (1, 2, 3, 24, 25, 99):
                self.assertIs(is_house(nested(tuple, many, within)), is_house_nested(many, within), (many, within))
                self.assertIs(is_house(nested(list, many, within)), False, (many, within))
        self.assertIs(is_house(chain(("room", "in"), 49)), False)

    def test_nothing_is_changed(self):
        thing = [("say", "a"), {"a": [()]}]
        row = (("room", "a", [("say", "a")]), ["say", "a"])
        for told in (thing, row, (thing, row)):
            self.assertIs(is_house(told), False)
        self.assertEqual(thing, [("say", "a"), {"a": [()]}])
        self.assertEqual(row, (("room", "a", [("say", "a")]), ["say", "a"]))


def is_house_nested(many, within):
    """One tuple around a part is a house; what else nested makes is none."""
    return many == 1 and within == ("say", "a")


class Sizes(unittest.TestCase):
    def test_how_many_parts(self):
        for row, many in (((), 0), (SMALL, 3), (ALL_EIGHT, 14), (wide(5), 5), (chain(("room",), 24), 24)):
            self.assertEqual(parts_in(row), many)
        for word in THREES + ("again",):
            self.assertEqual(parts_in((part(word, "n"),)), 1, word)
            self.assertEqual(parts_in((part(word, "n", ("say", "a")),)), 2, word)
            self.assertEqual(parts_in((part(word, "n", ("say", "a"), ("room", "b", wide(3))), ("say", "a"))), 7, word)
        self.assertEqual(parts_in((("say", "a"),)), 1)

    def test_how_deep(self):
        for row, many in (((), 0), (SMALL, 2), (ALL_EIGHT, 3), (wide(5), 1), (chain(("room",), 24), 24)):
            self.assertEqual(deep(row), many)
        for word in THREES + ("again",):
            self.assertEqual(deep((part(word, "n"),)), 1, word)
            self.assertEqual(deep((part(word, "n", ("say", "a")),)), 2, word)
            self.assertEqual(deep((("say", "a"), part(word, "n", ("say", "a")), ("say", "a"))), 2, word)
            self.assertEqual(deep((part(word, "n", ("again", (("say", "a"),))), ("room", "a", ()))), 3, word)
            self.assertEqual(deep((part(word, "n", ("say", "a"), ("room", "b", wide(3))), ("say", "a"))), 3, word)
        self.assertEqual(deep((("say", "a"),)), 1)

    def test_the_deepest_part_may_be_the_first_or_the_last(self):
        low = ("room", "a", chain(("in",), 3))
        flat = ("room", "a", ())
        for row in ((low, flat, flat), (flat, low, flat), (flat, flat, low)):
            self.assertEqual(deep(row), 4)
            self.assertEqual(parts_in(row), 6)

    def test_kinds_of_what_is_told(self):
        for row in ((), SMALL, ALL_EIGHT):
            self.assertIs(type(parts_in(row)), int)
            self.assertIs(type(deep(row)), int)

    def test_of_rows_of_stands(self):
        row = (("room", "key.3", (("say", "a.10"), ("in", "b.1", (("hear", "x", (("out", "x", ()),)),)))), ("open", "a.10", ()))
        self.assertEqual((parts_in(row), deep(row)), (6, 4))
        low = (("say", "a.1"),)
        for k in range(39):
            low = (("room", "key.7", low),)
        self.assertEqual((parts_in(low), deep(low)), (40, 40))
        large = (("room", "a.1", wide(499)), ("room", "a.2", wide(499)))
        self.assertEqual((parts_in(large), deep(large)), (1000, 2))

    def test_at_most_400_parts(self):
        self.assertIs(is_house(wide(400)), True)
        self.assertIs(is_house(wide(401)), False)
        self.assertIs(is_house(wide(1000)), False)
        for many in (24, 60, 399, 400, 401, 402, 500):
            row = spread(many)
            self.assertEqual(parts_in(row), many)
            self.assertIs(is_house(row), many <= 400, many)

    def test_parts_of_each_kind_of_rest_count(self):
        for word in THREES + ("again",):
            self.assertIs(is_house((part(word, "n", *wide(399)),)), True, word)
            self.assertIs(is_house((part(word, "n", *wide(400)),)), False, word)
            self.assertIs(is_house((part(word, "n", *wide(199)), ("room", "b", wide(199)))), True, word)
            self.assertIs(is_house((part(word, "n", *wide(199)), ("room", "b", wide(200)))), False, word)

    def test_many_bound_names(self):
        binders = tuple([("hear", name_number(k), (("say", name_number(k)),)) for k in range(200)])
        self.assertIs(is_house(binders), True)
        self.assertIs(is_house(binders + (("say", "a"),)), False)
        self.assertEqual(len(bound_in(binders)), 200)

    def test_at_most_24_deep(self):
        for words in [(word,) for word in THREES] + [("again",), THREES + ("again",), ("again", "hear")]:
            for many in (23, 24, 25, 26, 40):
                row = chain(words, many)
                self.assertEqual(deep(row), many)
                self.assertIs(is_house(row), many <= 24, (words, many))

    def test_the_last_part_may_be_a_letter_or_a_rest_of_several(self):
        low = (("say", "a"), ("say", "b"), ("room", "c", ()))
        for k in range(23):
            low = (("say", "a"), ("out", "b", low), ("room", "c", ()))
        self.assertIs(is_house(low), True)
        self.assertIs(is_house((("room", "c", ()), ("in", "b", low))), False)
        self.assertIs(is_house((("in", "b", low), ("room", "c", ()))), False)


class Bindings(unittest.TestCase):
    def test_no_name_is_bound_twice(self):
        for one in BINDERS:
            for other in BINDERS:
                side = ((one, "x", ()), (other, "x", ()))
                used = ((one, "x", (("say", "x"),)), (other, "x", (("say", "x"),)))
                within = ((one, "x", ((other, "x", ()),)),)
                below = ((one, "x", (("room", "a", (("in", "x", ((other, "x", (("say", "x"),)),)),)),)),)
                far = (("room", "a", (("in", "b", ((one, "x", (("say", "x"),)),)),)), ("say", "c"),
                       ("again", (("room", "d", ((other, "x", ()),)),)))
                for row in (side, used, within, below, far):
                    self.assertIs(is_house(row), False, row)

    def test_unlike_names_may_be_bound(self):
        for one in BINDERS:
            for other in BINDERS:
                side = ((one, "x", (("say", "x"),)), (other, "y", (("say", "y"),)))
                within = ((one, "x", ((other, "y", (("say", "x"), ("in", "y", ()))),)),)
                far = (("room", "a", (("in", "b", ((one, "x", (("say", "x"),)),)),)),
                       ("again", (("room", "d", ((other, "y", (("open", "y", ()),)),)),)))
                for row in (side, within, far):
                    self.assertIs(is_house(row), True, row)

    def test_a_bound_name_stands_nowhere_outside_of_its_rest(self):
        for binder in BINDERS:
            bind = (binder, "x", (("say", "x"),))
            for place, user in each_place("x"):
                self.assertIs(is_house((user,)), True, place)
                self.assertIs(is_house((user, bind)), False, (binder, place))
                self.assertIs(is_house((bind, user)), False, (binder, place))
                self.assertIs(is_house((bind, ("say", "a"), user)), False, (binder, place))
                self.assertIs(is_house((("room", "a", (bind,)), user)), False, (binder, place))
                self.assertIs(is_house((user, ("again", (("in", "a", (bind,)),)))), False, (binder, place))
                self.assertIs(is_house((("room", "a", (user,)), ("in", "b", (bind,)))), False, (binder, place))
                self.assertIs(is_house((("new", "k", (user, bind)),)), False, (binder, place))
                self.assertIs(is_house(((binder, "x", (user,)), ("say", "a"))), True, (binder, place))
                self.assertIs(is_house(((binder, "x", (("say", "x"), user)), ("say", "x"))), False, (binder, place))

    def test_nor_around_it(self):
        for binder in BINDERS:
            for word in USERS:
                self.assertIs(is_house(((word, "x", ((binder, "x", ()),)),)), False, word)
                self.assertIs(is_house(((word, "x", (("again", ((binder, "x", (("say", "x"),)),)),)),)), False, word)
                self.assertIs(is_house(((word, "a", ((binder, "x", (("say", "x"),)),)),)), True, word)

    def test_within_its_rest_it_stands_however_deep_and_often(self):
        row = ()
        for place, user in each_place("x", "y"):
            if user[:2] not in (("hear", "y"), ("new", "y")):
                row += (user,)
        for binder in BINDERS:
            self.assertIs(is_house(((binder, "x", row),)), True)
            self.assertIs(is_house(((binder, "x", (("room", "a", (("in", "x", row),)),)),)), True)

    def test_free_names_stand_as_often_as_they_like(self):
        self.assertIs(is_house((("say", "a"), ("room", "a", (("in", "a", (("say", "a"),)),)), ("open", "a", ()))), True)


class Callings(unittest.TestCase):
    def test_free_in_each_place(self):
        for place, user in each_place("x", "r"):
            words = place.split()
            around = ["r"] if words[0] in USERS and len(words) == 2 else []
            self.assertEqual(free_in((user,)), around + ["x"], place)
            for binder in BINDERS:
                self.assertEqual(free_in(((binder, "x", (user,)),)), around, place)
                self.assertEqual(free_in(((binder, "z", (user,)),)), around + ["x"], place)

    def test_the_x_of_hear_and_new_is_not_free(self):
        for binder in BINDERS:
            self.assertEqual(free_in(((binder, "x", ()),)), [])
            self.assertEqual(free_in((("again", ((binder, "x", ()),)),)), [])

    def test_free_beside_where_it_is_bound(self):
        for binder in BINDERS:
            bind = (binder, "x", (("say", "x"), ("in", "x", ())))
            for row in ((bind, ("say", "x")), (("say", "x"), bind), (("room", "x", (bind,)),), (bind, ("again", (("out", "x", ()),)))):
                self.assertEqual(free_in(row), ["x"], row)
        self.assertEqual(free_in((("new", "x", (("hear", "y", (("say", "y"),)), ("say", "y"), ("say", "x"))),)), ["y"])

    def test_nothing_free(self):
        self.assertEqual(free_in(()), [])
        self.assertEqual(free_in((("again", (("again", ()),)),)), [])
        self.assertEqual(free_in((("new", "a", (("hear", "b", (("in", "a", (("say", "b"),)),)),)),)), [])

    def test_free_ones_sorted_each_once(self):
        row = (("say", "c"), ("room", "a", (("say", "c"), ("in", "b", (("out", "a", ()),)))), ("open", "c", ()), ("say", "ab"))
        self.assertEqual(free_in(row), ["a", "ab", "b", "c"])
        self.assertEqual(free_in(row[::-1]), ["a", "ab", "b", "c"])
        self.assertEqual(free_in(ALL_EIGHT), ["a", "b", "c", "d", "e", "f"])
        self.assertEqual(free_in(SMALL), ["a", "b", "c"])

    def test_private_names_are_free_too(self):
        row = (("room", "key.3", (("say", "a.10"), ("in", "a.2", ()))), ("hear", "x", (("say", "x"), ("open", "key.3", ()))),
               ("say", "key"), ("say", "a.1"))
        self.assertEqual(free_in(row), ["a.1", "a.10", "a.2", "key", "key.3"])

    def test_a_private_name_is_not_bound_by_its_base(self):
        self.assertEqual(free_in((("new", "a", (("say", "a.1"), ("say", "a"))),)), ["a.1"])

    def test_bound_in_each_place(self):
        for binder in BINDERS:
            self.assertEqual(bound_in(((binder, "x", ()),)), ["x"])
            self.assertEqual(bound_in(((binder, "x", (("say", "x"), ("in", "a", ()))),)), ["x"])
            for word in THREES + ("again",):
                more = ["r"] if word in BINDERS else []
                self.assertEqual(bound_in((part(word, "r", (binder, "x", ())),)), more + ["x"], word)

    def test_nothing_bound(self):
        for row in ((), SMALL, (("again", ()),), (("room", "a", (("in", "b", (("say", "c"),)),)),)):
            self.assertEqual(bound_in(row), [])

    def test_bound_ones_sorted(self):
        row = (("new", "c", (("hear", "b", ()), ("new", "a", (("hear", "ab", ()),)))), ("hear", "aa", ()))
        self.assertEqual(bound_in(row), ["a", "aa", "ab", "b", "c"])
        self.assertEqual(bound_in(row[::-1]), ["a", "aa", "ab", "b", "c"])
        self.assertEqual(bound_in(ALL_EIGHT), ["k", "x"])

    def test_lists_are_the_askers_own(self):
        for ask, row, wanted in ((free_in, ALL_EIGHT, ["a", "b", "c", "d", "e", "f"]), (bound_in, ALL_EIGHT, ["k", "x"]),
                                 (free_in, (), []), (bound_in, (), [])):
            first = ask(row)
            self.assertIs(type(first), list)
            second = ask(row)
            self.assertIsNot(first, second)
            first.append("more")
            self.assertEqual(second, wanted)
            self.assertEqual(ask(row), wanted)

    def test_asked_again_told_alike_and_the_row_stays(self):
        before = repr(ALL_EIGHT)
        for ask in (is_house, parts_in, deep, free_in, bound_in):
            self.assertEqual(ask(ALL_EIGHT), ask(ALL_EIGHT))
        self.assertEqual(repr(ALL_EIGHT), before)


if __name__ == "__main__":
    unittest.main()
