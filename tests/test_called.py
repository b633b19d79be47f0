"""[1.4] a row in which each free x is called otherwise."""

import unittest

from samples import BINDERS, USERS, each_place
from walkrooms.houses import called, free_in, is_house


class Called(unittest.TestCase):
    def test_each_place_where_a_free_x_can_stand(self):
        for calling in ("y", "abcdef", "x.1", "key.3", "y.999999"):
            news = dict(each_place(calling))
            for place, user in each_place("x"):
                self.assertEqual(called((user,), "x", calling), (news[place],), place)

    def test_all_of_them_at_once(self):
        row = tuple([user for place, user in each_place("x")])
        told = tuple([user for place, user in each_place("k.7")])
        self.assertEqual(called(row, "x", "k.7"), told)
        self.assertEqual(called((("room", "x", (("in", "x", row),)),), "x", "k.7"),
                         (("room", "k.7", (("in", "k.7", told),)),))

    def test_where_a_rest_is_within_another(self):
        row = (("again", (("hear", "y", (("new", "z", (("out", "x", (("open", "x", (("say", "x"),)),)),)),)),)),)
        told = (("again", (("hear", "y", (("new", "z", (("out", "a", (("open", "a", (("say", "a"),)),)),)),)),)),)
        self.assertEqual(called(row, "x", "a"), told)

    def test_others_stay_as_they_are_and_in_their_order(self):
        row = (("say", "b"), ("room", "xx", (("say", "x"), ("say", "a"), ("say", "x.1"))), ("hear", "y", (("say", "y"),)),
               ("in", "x", ()), ("again", ()), ("new", "z", ()))
        told = (("say", "b"), ("room", "xx", (("say", "c"), ("say", "a"), ("say", "x.1"))), ("hear", "y", (("say", "y"),)),
                ("in", "c", ()), ("again", ()), ("new", "z", ()))
        self.assertEqual(called(row, "x", "c"), told)

    def test_a_row_in_which_x_is_not_there(self):
        row = (("room", "a", (("say", "b"), ("hear", "y", (("in", "y", ()),)))), ("again", (("new", "z", (("say", "z"),)),)))
        self.assertEqual(called(row, "x", "c"), row)
        self.assertEqual(called(row, "x", "key.3"), row)
        self.assertEqual(called((), "x", "c"), ())

    def test_by_itself_and_by_a_calling_that_is_there(self):
        row = (("say", "x"), ("in", "a", (("say", "x"),)), ("say", "a.1"))
        self.assertEqual(called(row, "x", "x"), row)
        self.assertEqual(called(row, "x", "a"), (("say", "a"), ("in", "a", (("say", "a"),)), ("say", "a.1")))
        self.assertEqual(called(row, "x", "a.1"), (("say", "a.1"), ("in", "a", (("say", "a.1"),)), ("say", "a.1")))

    def test_words_of_parts_are_no_callings(self):
        row = (("room", "a", (("say", "b"),)), ("hear", "y", ()), ("again", ()), ("say", "room"))
        self.assertEqual(called(row, "room", "k"), (("room", "a", (("say", "b"),)), ("hear", "y", ()), ("again", ()), ("say", "k")))
        for word in ("say", "hear", "again"):
            self.assertEqual(called(row, word, "k"), row, word)

    def test_the_rest_behind_a_part_whose_name_was_bound_around(self):
        rest = (("say", "x"), ("room", "k", (("in", "x", (("hear", "y", (("say", "x"), ("say", "y"))),)),)))
        self.assertEqual(called(rest, "x", "m"),
                         (("say", "m"), ("room", "k", (("in", "m", (("hear", "y", (("say", "m"), ("say", "y"))),)),))))

    def test_what_is_told_is_a_row_without_x(self):
        for place, user in each_place("x"):
            told = called((user, ("say", "a")), "x", "b")
            self.assertIs(type(told), tuple)
            self.assertIs(is_house(told), True, place)
            self.assertNotIn("x", free_in(told))
            self.assertIn("b", free_in(told))

    def test_what_is_handed_in_stays(self):
        row = (("room", "x", (("say", "x"),)), ("hear", "y", (("in", "x", ()),)))
        before = repr(row)
        first = called(row, "x", "k.1")
        second = called(row, "x", "k.1")
        self.assertEqual(repr(row), before)
        self.assertEqual(first, second)
        self.assertEqual(called(row, "x", "k.2"), (("room", "k.2", (("say", "k.2"),)), ("hear", "y", (("in", "k.2", ()),))))

    def test_large_rows_of_stands(self):
        row = (("say", "x"),)
        told = (("say", "a.5"),)
        for k in range(38):
            word = USERS[k % 4]
            row = ((word, "x", row), ("say", "b.3"))
            told = ((word, "a.5", told), ("say", "b.3"))
        for binder in BINDERS:
            self.assertEqual(called(((binder, "y", row),), "x", "a.5"), ((binder, "y", told),))


if __name__ == "__main__":
    unittest.main()
