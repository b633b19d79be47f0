"""[9.1] and [9.2] rooms that are kept apart, or met."""

import copy
import inspect
import time
import unittest

import plain
from samples import Drawer, drawn, drawn_houses, name_number
from walkrooms.houses import parts_in
from walkrooms.least import least_table
from walkrooms.meeting import may_come, told_apart
from walkrooms.reading import read
from walkrooms.stands import settled
from walkrooms.steps import step_done, steps_of
from walkrooms.texts import shown
from walkrooms.walks import run

# By the table a may come within b, but z stands nowhere, so that it never does.
STUCK = "a[in z.in b] | b[]"
# A house's text, a, b, and how many steps lead to the first meeting.
MET = (
    ("b[a[]]", "a", "b", 0),
    ("b[c[d[a[]]]]", "a", "b", 0),
    ("r[b[c[a[]]]]", "a", "b", 0),
    ("b[c[] | c[<d> | a[]]]", "a", "b", 0),
    ("a[a[]]", "a", "a", 0),
    ("a[c[a[]]]", "a", "a", 0),
    ("new b b[new a a[]]", "a", "b", 0),
    ("new b b[a[]]", "a", "b", 0),
    ("a[in b] | b[]", "a", "b", 1),
    ("a[in a] | a[]", "a", "a", 1),
    ("a[in c] | b[c[]] | open b.d[] | a[out c]", "a", "c", 2),
    ("a[in b.in c] | b[c[]]", "a", "c", 2),
    ("a[in b.in c] | b[c[]]", "a", "b", 1),
    # The shorter way is taken, wherever it stands.
    ("a[in d.out d.in b | in b] | d[] | b[]", "a", "b", 1),
    ("a[in b | in d.out d.in b] | d[] | b[]", "a", "b", 1),
    ("a[in d.in b] | d[] | open d | b[] | c[in b.b[a[]]]", "a", "b", 1),
    # Within one that walks, or is poured out.
    ("c[a[] | in b] | b[]", "a", "b", 1),
    ("b[open c | c[a[]]]", "a", "b", 0),
    ("b[open c.a[] | c[]]", "a", "b", 1),
    ("b[c[out b] | a[out b | in c]]", "a", "c", 1),
    ("d[a[out d.in b]] | b[]", "a", "b", 2),
    # What waits behind deeds, hears and agains stands nowhere until then.
    ("b[in c.a[]] | c[]", "a", "b", 1),
    ("b[(x).a[] | <c>]", "a", "b", 1),
    ("b[!a[]]", "a", "b", 1),
    ("b[!!a[]]", "a", "b", 2),
    ("!b[a[]]", "a", "b", 1),
    ("<c> | (x).b[in c.a[]] | c[]", "a", "b", 2),
    ("b[!in c.a[]] | c[]", "a", "b", 2),
    # Which private names are to come is not told by sameness.
    ("<c> | (x).p[in z.new k k[]] | (y).p[in z.new j j[]] | z[]", "k", "p", 2),
    ("<c> | (x).p[in z.new k k[]] | (y).p[in z.new j j[]] | z[]", "j", "p", 2),
    ("b[<c> | (x).p[in z.new k k[]] | (y).p[in z.new j j[]] | z[]]", "j", "b", 2),
    # What is heard, and private names by their bases.
    ("b[<a> | (x).x[]]", "a", "b", 1),
    ("<b> | (x).a[in x] | b[]", "a", "b", 2),
    ("new b (<b> | (x).a[in x] | b[])", "a", "b", 2),
    ("new a (<a> | (x).x[in b] | b[])", "a", "b", 2),
    ("!new a a[in a | <a>]", "a", "a", None),
    ("!new a (a[in a] | a[])", "a", "a", 2),
    ("!c[] | b[open c.d[]] | e[!new a a[in b]] | b[] | open e", "a", "b", 3),
    ("!new b (b[] | <b>) | (x).a[in x]", "a", "b", 3),
)
# A house's text, a, b, and how many stands there are, none of which is a meeting one.
NEVER = (
    (STUCK, "a", "b", 1),
    ("a[in c.in b] | c[] | b[]", "a", "b", 2),
    ("a[in c.in b] | c[] | b[] | !0", "a", "b", 2),
    ("a[in c.in b] | c[] | b[] | !new k 0", "a", "b", 2),
    ("b[in z.a[]]", "a", "b", 1),
    ("b[(x).a[]]", "a", "b", 1),
    ("b[out z.a[] | open z.a[]]", "a", "b", 1),
    ("a[] | in z.b[a[]]", "a", "b", 1),
    ("(x).b[a[]] | r[<c>]", "a", "b", 1),
    ("a[in z.a[]]", "a", "a", 1),
    # Those that are the same only by a renaming that doesn't leave bases as they are count each.
    (STUCK + " | new k k[in v] | new j j[in v] | v[]", "a", "b", 4),
    (STUCK + " | new k k[in v] | new j j[in v] | new i i[in v] | v[]", "a", "b", 8),
    (STUCK + " | p[<c>] | p[in c.new k <k>] | p[in c.new j <j>] | c[]", "a", "b", 4),
    # Those that are the same but for what new binds count once, but what they lead to counts each.
    (STUCK + " | p[in c.in d.new k k[]] | p[in c.in d.new j j[]] | c[d[]]", "a", "b", 8),
    (STUCK + " | p[in c.in q.new k k[]] | p[in c.in q.new j j[]] | p[in c.in q.new i i[]] | c[]", "a", "b", 4),
    (STUCK + " | <c> | (x).p[in d.new k k[]] | (y).p[in d.new j j[]] | d[]", "a", "b", 4),
    # Those that are the same by one that does count once, whichever number is theirs.
    (STUCK + " | p[open q.new k <k> | q[]] | o[open q.new j <j> | q[]]", "a", "b", 4),
    (STUCK + " | p[in c.new k k[<k>]] | p[in c.new j j[<j>]] | p[in c.new i i[<i>]] | c[]", "a", "b", 8),
    (STUCK + " | w[in v] | w[in v] | w[in v] | v[]", "a", "b", 4),
)


def stuck_among(many):
    """A house with just so many stands, none of them a meeting one: like walkers, beside the one that is stuck."""
    return read(STUCK) + (("room", "w", (("in", "v", ()),)),) * (many - 1) + (("room", "v", ()),)


class Coming(unittest.TestCase):
    """[9.1] who may come within whom by a table."""

    def told(self, holds, a, b, wanted):
        before = copy.deepcopy(holds)
        self.assertIs(may_come(holds, a, b), wanted, (holds, a, b))
        self.assertEqual(holds, before)

    def test_straight_and_several_deep(self):
        holds = {"b": [("room", "c"), ("say", "e")], "c": [("room", "d")], "d": [("room", "a")]}
        for a in ("a", "c", "d"):
            self.told(holds, a, "b", True)
        for a in ("b", "e", "q"):
            self.told(holds, a, "b", False)
        self.told(holds, "a", "c", True)
        self.told(holds, "c", "c", False)
        self.told(holds, "b", "a", False)
        long = {name_number(k): [("room", name_number(k + 1))] for k in range(300)}
        self.told(long, name_number(300), name_number(0), True)
        self.told(long, name_number(0), name_number(0), False)
        self.told(long, name_number(0), name_number(300), False)

    def test_round_about_and_within_itself(self):
        holds = {"a": [("room", "b")], "b": [("room", "a")]}
        for a in "ab":
            for b in "ab":
                self.told(holds, a, b, True)
        self.told(holds, "c", "a", False)
        self.told({"a": [("room", "a")]}, "a", "a", True)
        self.told({"a": [("room", "a")]}, "b", "a", False)
        self.told({"a": [("room", "b")], "b": [("room", "c")], "c": [("room", "b"), ("room", "d")]}, "d", "a", True)
        self.told({"a": [("room", "b")], "b": [("room", "c")], "c": [("room", "b"), ("room", "d")]}, "a", "a", False)

    def test_places_that_are_no_keys_and_names_that_stand_nowhere(self):
        self.told({}, "a", "b", False)
        self.told({}, "a", "a", False)
        self.told({}, "a", ".", False)
        self.told({"b": []}, "a", "b", False)
        self.told({"b": [("room", "a")]}, "a", "b", True)
        self.told({"b": [("room", "c")]}, "a", "b", False)
        self.told({"c": [("room", "a")]}, "a", "b", False)

    def test_entries_of_other_words_lead_nowhere(self):
        for word in ("in", "out", "open", "say", "hear"):
            self.told({"b": [(word, "a")]}, "a", "b", False)
            self.told({"b": [(word, "c")], "c": [("room", "a")]}, "a", "b", False)
            self.told({"b": [("room", "c")], "c": [(word, "a")]}, "a", "b", False)
            self.told({"b": [(word, "c"), ("room", "d")], "c": [("room", "a")], "d": [(word, "a"), ("room", "e")]}, "a", "b", False)
            self.told({"b": [(word, "a"), ("room", "a"), (word, "a")]}, "a", "b", True)

    def test_what_is_around(self):
        holds = {".": [("room", "b")], "b": [("room", "a")], "c": [("room", "d")]}
        self.told(holds, "b", ".", True)
        self.told(holds, "a", ".", True)
        self.told(holds, "d", ".", False)
        self.told(holds, "a", "c", False)

    def test_entries_twice(self):
        self.told({"b": [("room", "c"), ("room", "c")], "c": [("room", "a"), ("room", "b"), ("room", "a")]}, "a", "b", True)

    def test_drawn(self):
        draw = drawn(91)
        met = [0, 0]
        for _ in range(400):
            holds = {}
            for _ in range(draw.randrange(12)):
                entry = (draw.choice(("room", "room", "room", "in", "say")), draw.choice("abcde"))
                holds.setdefault(draw.choice(".abcde"), []).append(entry)
            for a in "abcdf":
                for b in ".abcdf":
                    wanted = plain.within(holds, a, b)
                    met[wanted] += 1
                    self.told(holds, a, b, wanted)
        self.assertGreater(min(met), 1000)

    def test_who_may_not_come_within_never_does(self):
        draw = drawn(92)
        drawer = Drawer(draw, free=("a", "b", "c"))
        kept = opens = 0
        for _ in range(200):
            house = drawer.house(4)
            holds, means = least_table(house)
            places = [".", *sorted(plain.all_names(house))]
            apart = [(a, b) for a in places[1:] for b in places if not may_come(holds, a, b)]
            stand = settled(house)
            for _ in range(12):
                for a, b in apart:
                    self.assertFalse(b != "." and plain.is_meeting(stand[1], a, b), (house, stand, a, b))
                    kept += 1
                steps = steps_of(stand)
                if not steps:
                    break
                step = draw.choice(steps)
                if step[0] == "open":
                    opens += 1
                    around = ["."]
                    row = stand[1]
                    for k in step[1]:
                        around.append(plain.base(row[k][1]))
                        row = row[k][2]
                    for b in around:
                        self.assertNotIn((plain.base(row[step[3]][1]), b), apart)
                stand = step_done(stand, step)
        self.assertGreater(kept, 3000)
        self.assertGreater(opens, 30)


class Apart(unittest.TestCase):
    """[9.2] the four answers."""

    def leads_to_a_meeting(self, house, a, b, told, many):
        self.assertIs(type(told), tuple)
        self.assertEqual(len(told), 2)
        self.assertEqual(told[0], "met")
        self.assertIs(type(told[1]), list)
        self.assertEqual(len(told[1]), many, (shown(house), a, b, told))
        self.assertTrue(plain.is_meeting(run(settled(house), told[1])[1], a, b))

    def test_met(self):
        for text, a, b, many in MET:
            if many is None:
                self.assertNotEqual(told_apart(read(text), a, b)[0], "met", text)
            else:
                self.leads_to_a_meeting(read(text), a, b, told_apart(read(text), a, b), many)
                self.leads_to_a_meeting(read(text), a, b, told_apart(read(text), a, b, 300), many)

    def test_met_at_the_house_settled(self):
        for text in ("b[a[]]", "!c[] | b[a[]] | d[in b] | d[in b]", "new b (b[c[new a a[]]] | !<b>)"):
            for most in (1, 2, 100):
                self.assertEqual(told_apart(read(text), "a", "b", most), ("met", []))

    def test_never(self):
        for text, a, b, many in NEVER:
            house = read(text)
            self.assertTrue(may_come(least_table(house)[0], a, b), text)
            self.assertEqual(sum(len(level) for level in plain.levels(settled(house), 300)), many, text)
            for most in (many, many + 1, 100, 300):
                self.assertEqual(told_apart(house, a, b, most), ("never", many), text)
            if many > 1:
                self.assertEqual(told_apart(house, a, b, many - 1), ("open",), text)
                self.assertEqual(told_apart(house, a, b, 1), ("open",), text)

    def test_apart_with_the_least_table(self):
        for text, a, b in (("a[in b] | b[]", "b", "a"), ("0", "a", "b"), ("a[]", "a", "a"), ("b[a[]]", "b", "a"), ("<a> | (x).x[] | b[]", "a", "b"),
                           ("a[in b] | c[b[]]", "a", "b"), ("b[a[]]", "q", "b"), ("b[a[]]", "a", "q"), ("b[a[]]", "q", "q"), ("b[a[]]", "q", "r"),
                           ("!b[!c[]] | a[in c]", "a", "b"), ("a[in b.b[]]", "a", "b"), ("new k (k[] | b[<k>])", "k", "b")):
            house = read(text)
            for most in (1, 100, 300):
                told = told_apart(house, a, b, most)
                self.assertIs(type(told), tuple)
                self.assertEqual(told, ("apart", *least_table(house)), (text, a, b))

    def test_the_told_table_is_the_askers_own(self):
        house = read("a[in b] | b[] | <c> | (x).in x")
        first = told_apart(house, "b", "a")
        wanted = copy.deepcopy(first)
        for things in first[1:]:
            for key in list(things):
                things[key].append("more")
            things.clear()
        self.assertEqual(told_apart(house, "b", "a"), wanted)
        steps = told_apart(house, "a", "b")[1]
        steps.clear()
        self.assertEqual(len(told_apart(house, "a", "b")[1]), 1)
        self.assertEqual(house, read("a[in b] | b[] | <c> | (x).in x"))

    def test_just_as_many_as_most_and_one_more(self):
        for many in (1, 2, 3, 10, 60):
            house = stuck_among(many)
            self.assertEqual(told_apart(house, "a", "b", many), ("never", many))
            self.assertEqual(told_apart(house, "a", "b", most=many), ("never", many))
            if many > 1:
                self.assertEqual(told_apart(house, "a", "b", many - 1), ("open",))
                self.assertEqual(told_apart(house, "a", "b", most=many - 1), ("open",))

    def test_most_left_out_is_100(self):
        self.assertEqual(told_apart(stuck_among(100), "a", "b"), ("never", 100))
        self.assertEqual(told_apart(stuck_among(101), "a", "b"), ("open",))
        self.assertEqual(told_apart(stuck_among(101), "a", "b", 101), ("never", 101))
        self.assertEqual(list(inspect.signature(told_apart).parameters), ["house", "a", "b", "most"])

    def test_a_meeting_beyond_most_stands_is_not_looked_at(self):
        for many in (1, 2, 5, 10):
            # One after another the first room walks through many ones, and then into b.
            house = (("room", "a", walks(many)), ("room", "c", ()), ("room", "b", ()))
            self.assertEqual(len(told_apart(house, "a", "b", 2 * many + 2)[1]), 2 * many + 1)
            for most in (1, many, 2 * many + 1):
                self.assertEqual(told_apart(house, "a", "b", most), ("open",))

    def test_rows_done_again_are_never_all_gone_through(self):
        for text in (STUCK + " | !c[]", STUCK + " | c[!<d>]", STUCK + " | !new k k[]", STUCK + " | !new k (k[in v] | <k>) | v[]", STUCK + " | !(x).<x>"):
            for most in (1, 2, 30, 100):
                self.assertEqual(told_apart(read(text), "a", "b", most), ("open",), text)

    def test_drawn_houses(self):
        counts = {}
        houses = [house for house in drawn_houses(93, 1000, least_deep=3, most=3) if parts_in(house) <= 12 and steps_of(settled(house))]
        for house in houses:
            stands = plain.levels(settled(house), 25)
            if any(stand[0] > 5 for level in stands for stand in level):
                continue
            for a, b in (("a", "a"), ("a", "b"), ("b", "a")):
                for most in (1, 3, 8, 25):
                    word = self.right(house, a, b, most, stands)
                    counts[word] = counts.get(word, 0) + 1
        self.assertGreater(min(counts[word] for word in ("apart", "met", "never", "open")), 60, counts)

    def right(self, house, a, b, most, stands):
        """Looks at what is told by lists of stands that are come to by no step, one, and so on."""
        told = told_apart(house, a, b, most)
        holds, means = least_table(house)
        if not plain.within(holds, a, b):
            self.assertEqual(told, ("apart", holds, means))
            return "apart"
        ahead = 0
        for many, level in enumerate(stands):
            if any(plain.is_meeting(stand[1], a, b) for stand in level):
                # All of this level are among the first most ones, or none, or just which comes first decides.
                if ahead + len(level) <= most:
                    self.leads_to_a_meeting(house, a, b, told, many)
                elif ahead >= most:
                    self.assertEqual(told, ("open",))
                elif told != ("open",):
                    self.leads_to_a_meeting(house, a, b, told, many)
                return told[0]
            ahead += len(level)
        self.assertEqual(told, ("open",) if ahead > most else ("never", ahead), (shown(house), a, b, most))
        return told[0]

    def test_told_alike_whatever_was_asked_between(self):
        house = read("a[in b.in c] | b[c[]] | !d[]")
        first = told_apart(house, "a", "c")
        told_apart(stuck_among(10), "a", "b", 4)
        told_apart(house, "c", "a")
        self.assertEqual(told_apart(house, "a", "c"), first)

    def test_many_stands_that_differ_by_names_to_come_alone(self):
        many = 12
        text = STUCK + " | v[]" + "".join(f" | p[in v.in q.new {name_number(k)} {name_number(k)}[]]" for k in range(many))
        begin = time.perf_counter()
        self.assertEqual(told_apart(read(text), "a", "b"), ("never", many + 1))
        self.assertEqual(told_apart(read(text), "a", "b", many), ("open",))
        self.assertLess(time.perf_counter() - begin, 10)

    def test_300_stands_in_a_few_seconds(self):
        walkers = " | ".join(f"{name}[in v]" for name in "cdefghij") + " | v[] | "
        privates = " | ".join(f"new {name} ({name}[in v.<{name}>] | <{name}>)" for name in "cdefghij") + " | v[(x) | (y)] | "
        for text in (walkers + STUCK, privates + STUCK, "!new k k[in v] | v[] | " + STUCK, "!c[in c] | " + STUCK, "!new k (k[in k] | <k>) | !(x).x[] | " + STUCK):
            begin = time.perf_counter()
            self.assertIn(told_apart(read(text), "a", "b", 300)[0], ("open", "never"), text)
            self.assertLess(time.perf_counter() - begin, 10, text)


def walks(many):
    """A row with deeds that lead into c and out of it many times, then into b."""
    row = (("in", "b", ()),)
    for _ in range(many):
        row = (("in", "c", (("out", "c", row),)),)
    return row


if __name__ == "__main__":
    unittest.main()
