"""[7.1] all ends of houses without again, and how many runs lead there."""

import math
import time
import unittest

import plain
from samples import any_things, drawn_houses, name_number
from walkrooms.ends import ends_of
from walkrooms.errors import Again, NoHouse, TooMany
from walkrooms.houses import is_house, parts_in
from walkrooms.reading import read
from walkrooms.sameness import same
from walkrooms.stands import settled
from walkrooms.steps import step_done, steps_of
from walkrooms.texts import shown
from walkrooms.weighing import weighed_steps

WITHOUT_AGAIN = ("room",) * 5 + ("in", "out") * 2 + ("open", "say", "hear", "new")
# A house's text, how many stands, how many ends, and how many runs.
TOLD = (
    ("0", 1, 1, 1),
    ("a[b[] | <c>] | in a | open d", 1, 1, 1),
    ("new k (k[] | open j)", 1, 1, 1),
    ("a[in b] | b[]", 2, 1, 1),
    ("a[in b] | b[] | c[in b]", 4, 1, 2),
    ("a[in b | in c] | b[] | c[]", 3, 2, 2),
    ("a[in b] | b[in a]", 3, 2, 2),
    ("a[in a] | a[in a]", 2, 1, 2),
    ("<a> | (x).x[] | (y).<y>", 4, 2, 2),
    ("b[a[out b]] | open b", 4, 2, 2),
    ("<a> | <a> | (x)", 2, 1, 2),
    ("<a> | <b> | (x)", 3, 2, 2),
    ("open a.open b.<c> | a[b[]]", 3, 1, 1),
    ("open a | a[] | a[] | a[]", 2, 1, 3),
    ("open a | open a | a[] | a[] | a[]", 3, 1, 12),
    # Private names called otherwise, and new ones in another order.
    ("a[in c.new k <k>] | a[in c.new j <j>] | c[]", 3, 1, 2),
    ("<a> | (x).new k (k[<x>] | open k)", 3, 1, 1),
    ("new j new k (<j> | <k> | (x).in x)", 2, 1, 2),
    ("new j new k (j[in a] | k[in a] | a[])", 3, 1, 2),
)

# Of six names each knows the next one, in one ring of six or in two of three, whoever hears the letter.
RINGS = "new a new b new c new d new e new f (<p> | (x).(%s) | (y).(%s))" % (
    " | ".join(f"{one}[<{other}>]" for one, other in zip("abcdef", "bcdefa")), " | ".join(f"{one}[<{other}>]" for one, other in zip("abcdef", "cdefab")))


def walkers(many, name="a"):
    """Like rooms that can all walk into one."""
    return (("room", name, (("in", "b", ()),)),) * many + (("room", "b", ()),)


class Ends(unittest.TestCase):
    def ends_match(self, ends, wanted, told=None):
        """Each end is the same as one that is wanted, and each of these comes once."""
        self.assertEqual(len(ends), len(wanted), told)
        for stand in wanted:
            self.assertEqual(len([end for end in ends if same(end, stand)]), 1, (told, stand))

    def test_texts(self):
        for text, many, ends, runs in TOLD:
            told = ends_of(read(text))
            self.assertIs(type(told), tuple)
            self.assertEqual([type(one) for one in told], [int, list, int])
            self.assertEqual((told[0], len(told[1]), told[2]), (many, ends, runs), text)
            self.ends_match(told[1], plain.all_ends(settled(read(text)))[1], text)

    def test_a_house_without_steps(self):
        for text in ("0", "a[]", "new k k[<k>]", "a[in b] | c[]"):
            self.assertEqual(ends_of(read(text)), (1, [settled(read(text))], 1))
            self.assertEqual(ends_of(read(text), 1), (1, [settled(read(text))], 1))

    def test_like_rooms_that_walk_into_one(self):
        for many in (0, 1, 2, 3, 5, 10, 30):
            told = ends_of(walkers(many))
            self.assertEqual((told[0], told[2]), (many + 1, math.factorial(many)))
            self.ends_match(told[1], [(1, (("room", "b", (("room", "a", ()),) * many),))])

    def test_unlike_rooms_that_walk_into_one(self):
        for many in (1, 2, 4, 7):
            house = tuple([("room", name_number(k), (("in", "b", ()),)) for k in range(many)]) + (("room", "b", ()),)
            told = ends_of(house)
            self.assertEqual((told[0], len(told[1]), told[2]), (2 ** many, 1, math.factorial(many)))

    def test_rooms_with_private_names_count_as_like(self):
        text = "b[]"
        for k in range(6):
            text += f" | new {name_number(k)} {name_number(k)}[in b]"
        told = ends_of(read(text))
        self.assertEqual((told[0], len(told[1]), told[2]), (7, 1, 720))

    def test_drawn_houses(self):
        looked = stands = several = privates = 0
        for house in drawn_houses(31, 3500, least_deep=3, words=WITHOUT_AGAIN, most=3):
            if parts_in(house) > 14 or not steps_of(settled(house)):
                continue
            wanted = plain.all_ends(settled(house))
            told = ends_of(house)
            self.assertEqual((told[0], told[2]), (wanted[0], wanted[2]), shown(house))
            self.ends_match(told[1], wanted[1], house)
            looked += 1
            stands += told[0]
            several += len(told[1]) > 1
            privates += settled(house)[0] > 1
        self.assertGreater(looked, 150)
        self.assertGreater(several, 20)
        self.assertGreater(privates, 20)

    def test_ends_have_no_steps_and_are_come_to(self):
        for house in drawn_houses(32, 150, least_deep=4, words=WITHOUT_AGAIN):
            try:
                many, ends, runs = ends_of(house, 60)
            except TooMany:
                continue
            self.assertGreaterEqual(runs, len(ends))
            self.assertGreaterEqual(many, len(ends))
            self.assertGreaterEqual(len(ends), 1)
            for end in ends:
                self.assertEqual(steps_of(end), [])

    def test_just_as_many_as_most_and_one_more(self):
        for many in (1, 2, 3, 4, 9, 50):
            house = walkers(many)
            self.assertEqual(ends_of(house, many + 1)[0], many + 1)
            self.assertEqual(ends_of(house, most=many + 1)[0], many + 1)
            self.assertEqual(ends_of(house, 300)[0], many + 1)
            for most in (many, 1):
                with self.assertRaises(TooMany):
                    ends_of(house, most)
                with self.assertRaises(TooMany):
                    ends_of(house, most=most)

    def test_most_left_out_is_200(self):
        self.assertEqual(ends_of(walkers(199))[0], 200)
        self.assertEqual(ends_of(walkers(199))[2], math.factorial(199))
        # 200 like walkers and their goal are one part too many for a house; letters that are heard are fewer.
        hearers = tuple([("hear", name_number(k), ()) for k in range(200)])
        many, ends, runs = ends_of((("say", "a"),) * 199 + hearers)
        self.assertEqual((many, len(ends), runs), (200, 1, math.factorial(199) * math.factorial(200)))
        with self.assertRaises(TooMany):
            ends_of((("say", "a"),) * 200 + hearers)
        self.assertEqual(ends_of((("say", "a"),) * 200 + hearers, 201)[0], 201)

    def test_again_anywhere(self):
        for text in ("!0", "<a> | !<b>", "a[!0]", "a[b[<c> | !0]]", "in a.!0", "out a.<b> | open c.(<d> | !0)", "(x).!<x>", "new k !<k>", "a[new k in k.!0]",
                     "!!0", "!a[!<b>]", "in a.out b.(x).new k k[!0]"):
            for most in (1, 200, 300):
                with self.assertRaises(Again, msg=text):
                    ends_of(read(text), most)

    def test_what_is_no_house(self):
        for thing in any_things():
            if not is_house(thing):
                with self.assertRaises(NoHouse):
                    ends_of(thing)
        again = ("again", ())
        for row in ((again, ("say", "a.1")), (again, ("hear", "x", ()), ("say", "x")), [again], (again, again, None), (("again", []),), (again,) * 401,
                    (("hear", "x", ()), ("hear", "x", (again,))), (("again", (), ()),), again, (1, (again,))):
            with self.assertRaises(NoHouse):
                ends_of(row)
        with self.assertRaises(NoHouse):
            ends_of((("say", "a.1"),), 1)

    def test_stands_that_look_alike_from_each_name(self):
        self.assertEqual(ends_of(read(RINGS))[::2], (3, 2))
        self.assertEqual(len(ends_of(read(RINGS))[1]), 2)

    def test_up_to_200_stands_in_a_few_seconds(self):
        chains = " | ".join(f"{name}[in b.in b.in b.in b.in b] | b[b[b[b[b[]]]]]" for name in ("a", "c"))
        texts = ["a[in b] | c[in b] | d[in b] | e[in b] | f[in b] | g[in b] | h[in b] | b[]", chains,
                 "<a> | <b> | (x).(<x> | x[]) | (y).(<y> | in y) | (z).new k k[<z>] | a[] | open a",
                 " | ".join(f"new {name_number(k)} ({name_number(k)}[in b.<{name_number(k)}>] | <{name_number(k)}>)" for k in range(10)) + " | b[(x) | (y)]"]
        for text in texts:
            begin = time.perf_counter()
            try:
                ends_of(read(text), 200)
            except TooMany:
                pass
            self.assertLess(time.perf_counter() - begin, 5, text)
        for house in (walkers(199), (("say", "a"),) * 199 + (("hear", "x", ()),) * 1, (("room", "r", (("open", "a", ()), ("room", "a", ()))),) * 133):
            begin = time.perf_counter()
            ends_of(house)
            self.assertLess(time.perf_counter() - begin, 5)

    def test_told_alike_and_the_askers_own(self):
        house = read("a[in b | in c] | b[] | c[]")
        first = ends_of(house)
        self.assertEqual(first, ends_of(house))
        first[1].clear()
        self.assertEqual(len(ends_of(house)[1]), 2)
        with self.assertRaises(TooMany):
            ends_of(house, 2)
        self.assertEqual(ends_of(house, 3)[0], 3)
        self.assertEqual(house, read("a[in b | in c] | b[] | c[]"))


class Weighed(unittest.TestCase):
    """What ends are counted by: steps that differ by order alone are told once, with how many they are."""

    def test_all_steps_are_weighed(self):
        for keeps_news in (False, True):
            for house in drawn_houses(33, 200, least_deep=3, free=("a",)):
                stand = settled(house)
                steps = steps_of(stand)
                weighed = weighed_steps(stand, keeps_news)
                self.assertEqual(weighed, sorted(weighed))
                self.assertEqual(len(set(step for step, many in weighed)), len(weighed))
                for word in ("in", "out", "open", "letter", "again"):
                    self.assertEqual(sum(many for step, many in weighed if step[0] == word), len([step for step in steps if step[0] == word]))
                left = [step_done(stand, step) for step in steps]
                for step, many in weighed:
                    self.assertIn(step, steps)
                    alike = [after for after in left if same(after, step_done(stand, step))]
                    self.assertGreaterEqual(len(alike), many)

    def test_the_first_of_those_that_are_alike(self):
        for house in drawn_houses(34, 300, least_deep=3, free=("a",)):
            stand = settled(house)
            first = {}
            for step in steps_of(stand):
                first.setdefault(repr(plain.blanked_levels(step_done(stand, step)[1], {}, {})), step)
            self.assertLessEqual(set(first.values()), {step for step, many in weighed_steps(stand, True)})

    def test_names_to_come_are_told_apart_where_news_are_kept(self):
        stand = settled(read("a[in b.new k <k>] | a[in b.new j <j>] | b[] | c[(x).<x>] | c[(y).<y>] | !in b.new i <i>"))
        self.assertEqual(weighed_steps(stand, False), [(("again", (), 5), 1), (("in", (), 0, 0, 2), 2)])
        self.assertEqual(weighed_steps(stand, True), [(("again", (), 5), 1), (("in", (), 0, 0, 2), 1), (("in", (), 1, 0, 2), 1)])
        stand = settled(read("<a> | (x).<x> | (y).<y> | <a>"))
        for keeps_news in (False, True):
            self.assertEqual(weighed_steps(stand, keeps_news), [(("letter", (), 0, 1), 4)])


if __name__ == "__main__":
    unittest.main()
