"""[13.1] and [13.2] the desk."""

import copy
import unittest

from samples import any_things, drawn, drawn_houses, others
from walkrooms.desk import Desk
from walkrooms.ends import ends_of
from walkrooms.errors import Again, NoName, NoRow, NoStep, NoText, Nothing, RoomError, TooMany
from walkrooms.least import least_table
from walkrooms.meeting import told_apart
from walkrooms.sameness import same
from walkrooms.stands import settled
from walkrooms.steps import steps_of
from walkrooms.telling import told_kinds
from walkrooms.texts import shown
from walkrooms.walks import Walk

HOUSE = "a[in b] | b[] | open a"
NAMES = ("a", "z", "abcdef", "house", "like", "drop", "names", "show", "steps", "do", "undo", "back", "same", "ends", "lies", "apart", "kind", "ok", "say")
NO_NAMES = ("", "in", "out", "open", "new", "abcdefg", "A", "aB", "a1", "1", "0", "a.1", "k.3", ".", "-", "<a>", "a[]", "a\n", "\na", "a\t", "_", "\u00e9")
NO_NUMBERS = ("", "00", "01", "001", "000", "1000", "0000", "1234567", "-1", "-0", "+1", "1.0", "1.", "a", "one", "1a", "1\n", "\u0661", "1_0", "0x1", " ")
# Each row with right words: names by which houses stand are p and q.
ROWS = ("house n 0", "like n p", "drop p", "names", "show p", "steps p", "do p 0", "undo p", "back p 0", "same p q", "ends p", "lies p a", "apart p a b", "kind p a")
# Where in the rows words of a kind stand.
KEPT = (("like", 2), ("drop", 1), ("show", 1), ("steps", 1), ("do", 1), ("undo", 1), ("back", 1), ("same", 1), ("same", 2), ("ends", 1), ("lies", 1), ("apart", 1), ("kind", 1))
OTHER_NAMES = (("house", 1), ("like", 1), ("apart", 2), ("apart", 3))
PLACES = (("lies", 2), ("kind", 2))
NUMBERS = (("do", 2), ("back", 2))


def desk_with(**texts):
    """A desk with houses by these names."""
    desk = Desk()
    for name, text in texts.items():
        assert desk.say(f"house {name} {text}") == "ok"
    return desk


def desk_walked():
    """A desk with two houses, the first of which has walked one step and has steps left."""
    desk = desk_with(p="a[in b] | b[] | c[in b]", q="new k k[]")
    desk.say("do p 0")
    return desk


def row_of(word):
    """The words of the row that begins so."""
    return [row for row in ROWS if row.split(" ")[0] == word][0].split(" ")


def with_word(row, at, word):
    """A row with another word at a place."""
    words = list(row)
    words[at] = word
    return " ".join(words)


def all_told(desk):
    """All that a desk tells of what it keeps."""
    told = [desk.say("names")]
    for name in told[0].split(" ") if told[0] != "-" else []:
        told += [desk.say(f"{word} {name}") for word in ("show", "steps")]
        try:
            for k in range(20):
                told.append(desk.say(f"back {name} {k}"))
        except Nothing:
            pass
    return told


class Told(unittest.TestCase):
    """[13.1] the rows, and their answers."""

    def answers(self, desk, *rows):
        for row, wanted in rows:
            told = desk.say(row)
            self.assertIs(type(told), str)
            self.assertEqual(told, wanted, row)

    def test_each_row(self):
        for row in ROWS:
            self.assertIs(type(desk_walked().say(row)), str, row)

    def test_house_and_names(self):
        self.answers(Desk(), ("names", "-"), ("house b a[]", "ok"), ("names", "b"), ("show b", "a[]"), ("house ab 0", "ok"), ("house a <a>", "ok"), ("names", "a ab b"),
                     ("show ab", "0"), ("show a", "<a>"))
        for name in NAMES:
            self.answers(Desk(), (f"house {name} {HOUSE}", "ok"), ("names", name), (f"show {name}", HOUSE))

    def test_house_in_the_stead_of_one(self):
        self.answers(Desk(), (f"house p {HOUSE}", "ok"), ("do p 0", "ok"), ("show p", "b[a[]] | open a"), ("house p (x).<x> | <d>", "ok"), ("names", "p"), ("show p", "(x).<x> | <d>"),
                     ("do p 0", "ok"), ("show p", "<d>"), ("house p (x).<x> | <d>", "ok"), ("show p", "(x).<x> | <d>"))

    def test_like_another(self):
        desk = desk_with(p="a[in b.out b] | b[]")
        self.answers(desk, ("do p 0", "ok"), ("like q p", "ok"), ("names", "p q"), ("show q", "b[a[out b]]"), ("back q 0", "a[in b.out b] | b[]"), ("do p 0", "ok"),
                     ("show q", "b[a[out b]]"), ("show p", "b[] | a[]"), ("undo q", "ok"), ("show q", "a[in b.out b] | b[]"), ("show p", "b[] | a[]"), ("undo p", "ok"),
                     ("show p", "b[a[out b]]"))

    def test_like_in_the_stead_of_one_and_of_itself(self):
        desk = desk_with(p="a[in b] | b[]", q="<c>")
        self.answers(desk, ("do p 0", "ok"), ("like q p", "ok"), ("show q", "b[a[]]"), ("like p p", "ok"), ("show p", "b[a[]]"), ("back p 0", "a[in b] | b[]"), ("undo p", "ok"),
                     ("show p", "a[in b] | b[]"), ("names", "p q"))

    def test_like_behind_an_undoing(self):
        desk = desk_with(p="a[in b | in c] | b[] | c[]")
        self.answers(desk, ("do p 0", "ok"), ("undo p", "ok"), ("do p 1", "ok"), ("like q p", "ok"), ("show q", "b[] | c[a[in b]]"), ("undo q", "ok"), ("show q", "a[in b | in c] | b[] | c[]"))
        with self.assertRaises(Nothing):
            desk.say("undo q")
        self.answers(desk, ("undo p", "ok"), ("like r p", "ok"), ("show r", "a[in b | in c] | b[] | c[]"))
        with self.assertRaises(Nothing):
            desk.say("back r 1")

    def test_like_keeps_private_names(self):
        desk = desk_with(p="new k (k[in b.new j <j>] | b[])")
        self.answers(desk, ("do p 0", "ok"), ("show p", "b[k.1[<j.2>]]"), ("like q p", "ok"), ("show q", "b[k.1[<j.2>]]"), ("same p q", "yes"))

    def test_like_of_a_house_that_is_dropped_or_put_anew(self):
        desk = desk_with(p="a[in b] | b[]")
        self.answers(desk, ("like q p", "ok"), ("drop p", "ok"), ("names", "q"), ("do q 0", "ok"), ("show q", "b[a[]]"), ("house p <c>", "ok"), ("show q", "b[a[]]"), ("ends q", "2 1 1"))

    def test_drop(self):
        desk = desk_with(p="<a>", q="<b>")
        self.answers(desk, ("drop p", "ok"), ("names", "q"), ("drop q", "ok"), ("names", "-"), ("house p <c>", "ok"), ("names", "p"), ("show p", "<c>"))

    def test_show(self):
        for text, wanted in (("0", "0"), ("new k k[<k>]", "k.1[<k.1>]"), ("new k 0", "0"), ("a[new k (<k> | new j k[in j])]", "a[<k.1> | k.1[in j.2]]"), ("!new k k[]", "!new k k[]")):
            self.answers(desk_with(p=text), ("show p", wanted))

    def test_steps(self):
        for text, wanted in (("0", "-"), ("a[]", "-"), ("a[in b] | b[]", "in - 0 0 1"), ("r[s[<a> | a[in b] | b[]]]", "in 0.0 1 0 2"), ("b[a[out b]]", "out - 0 0 0"),
                             ("c[] | r[b[a[<c> | out b]]]", "out 1 0 0 1"), ("a[] | open a", "open - 1 0"), ("<a> | (x) | <b>", "letter - 0 1; letter - 2 1"), ("!0 | a[!0]", "again - 0; again 1 0"),
                             ("a[b[c[!0]]]", "again 0.0.0 0"), (HOUSE, "in - 0 0 1; open - 2 0"),
                             ("d[] | e[] | f[a[] | g[] | c[h[] | <b> | i[] | in d | in b] | b[]]", "in 2 2 4 3"), (" | ".join(["<a>"] * 11 + ["(x)"]), "; ".join(f"letter - {k} 11" for k in range(11)))):
            self.answers(desk_with(p=text), ("steps p", wanted))

    def test_do_undo_and_back(self):
        desk = desk_with(p=HOUSE)
        self.answers(desk, ("steps p", "in - 0 0 1; open - 2 0"), ("do p 1", "ok"), ("show p", "b[] | in b"), ("back p 0", HOUSE), ("back p 1", "b[] | in b"), ("steps p", "-"),
                     ("undo p", "ok"), ("show p", HOUSE), ("do p 0", "ok"), ("show p", "b[a[]] | open a"), ("back p 1", "b[a[]] | open a"), ("back p 0", HOUSE), ("undo p", "ok"),
                     ("back p 0", HOUSE))

    def test_numbers_up_to_three_figures(self):
        desk = desk_with(p=" | ".join(["!0"] * 101))
        self.answers(desk, ("do p 0", "ok"), ("do p 9", "ok"), ("do p 100", "ok"), ("back p 3", " | ".join(["!0"] * 101)))
        for _ in range(100):
            desk.say("do p 10")
        self.answers(desk, ("back p 10", " | ".join(["!0"] * 101)), ("back p 103", " | ".join(["!0"] * 101)))

    def test_same(self):
        desk = desk_with(p="a[in b] | b[]", q="b[] | a[in b]", r="new k <k>", s="new j <j>", t="b[a[]]")
        self.answers(desk, ("same p q", "yes"), ("same q p", "yes"), ("same p p", "yes"), ("same p r", "no"), ("same r s", "yes"), ("same p t", "no"), ("do p 0", "ok"), ("same p q", "no"),
                     ("same p t", "yes"), ("do q 0", "ok"), ("same p q", "yes"), ("undo p", "ok"), ("same p q", "no"))

    def test_ends(self):
        desk = desk_with(p=HOUSE, q="0", r="<a> | <b> | (x)", s="a[in b | in c] | b[] | c[]", t="open a | open a | a[] | a[] | a[]")
        self.answers(desk, ("ends p", "3 2 2"), ("ends q", "1 1 1"), ("ends r", "3 2 2"), ("ends s", "3 2 2"), ("ends t", "3 1 12"), ("do p 0", "ok"), ("ends p", "3 2 2"))

    def test_ends_by_200(self):
        desk = desk_with(p=walkers(199))
        self.assertEqual(desk.say("ends p").split(" ")[:2], ["200", "1"])
        desk.say("house p " + " | ".join(["<a>"] * 200 + [f"({name})" for name in letters(200)]))
        with self.assertRaises(TooMany):
            desk.say("ends p")

    def test_lies(self):
        desk = desk_with(p=HOUSE, q="<a> | (x).x[in x]", r="0")
        self.answers(desk, ("lies p b", "room a"), ("lies p .", "in b, open a, room a, room b"), ("lies p a", "in b"), ("lies p q", "-"), ("lies p names", "-"), ("lies q x", "-"),
                     ("lies q .", "hear x, room a, say a"), ("lies q a", "in a, room a"), ("lies r .", "-"), ("lies r a", "-"), ("do p 1", "ok"), ("lies p b", "room a"))

    def test_apart(self):
        desk = desk_with(p="a[in b.in c] | b[c[]]", q="a[in c.in b] | c[] | b[]", r="a[in z.in b] | b[] | !d[]", s="b[a[]]")
        self.answers(desk, ("apart p b a", "apart"), ("apart p a b", "met 1"), ("apart p a c", "met 2"), ("apart q a b", "never 2"), ("apart r a b", "open"), ("apart s a b", "met 0"),
                     ("apart s b b", "apart"), ("apart s q r", "apart"), ("do p 0", "ok"), ("apart p a b", "met 1"))

    def test_apart_by_100(self):
        stuck = "a[in z.in b] | b[] | v[]" + " | w[in v]" * 99
        self.answers(desk_with(p=stuck, q=stuck + " | w[in v]"), ("apart p a b", "never 100"), ("apart q a b", "open"))

    def test_kind(self):
        desk = desk_with(p=HOUSE, q="a[in c.in b.out c] | <b> | (x).open x | r[<d>]", r="0")
        self.answers(desk, ("kind p a", "a walks opened b -"), ("kind p b", "b stays shut - -"), ("kind p .", ". walks shut b -"), ("kind q a", "a walks shut b,c -"), ("kind q x", "b stays opened - -"),
                     ("kind q b", "b stays opened - -"), ("kind q .", ". stays shut - b"), ("kind q r", "r stays shut - d"), ("kind r .", ". stays shut - -"), ("do p 1", "ok"),
                     ("kind p a", "a walks opened b -"))

    def test_texts_that_are_no_houses(self):
        for text in ("", " ", " 0", "0 ", "a[] ", " a[]", "  a[]", "a", "a[", "a[]|b[]", "a[] |  b[]", "(x) | (x)", "k.1[]", "a[]\n", "\n", "in in", "0 | 0", "((x) | <x>)"):
            desk = desk_with(p="<c>")
            for name in ("p", "q"):
                with self.assertRaises(NoText):
                    desk.say(f"house {name} {text}")
            self.answers(desk, ("names", "p"), ("show p", "<c>"))

    def test_desks_know_nothing_of_each_other(self):
        one, other = desk_with(p="<a>"), desk_with(q="<b>")
        self.answers(one, ("names", "p"), ("drop p", "ok"))
        self.answers(other, ("names", "q"), ("show q", "<b>"))

    def test_drawn_houses_against_the_stages(self):
        draw = drawn(151)
        for house in drawn_houses(151, 120, least_deep=2):
            desk, walk = desk_with(p=shown(house)), Walk(house)
            for _ in range(6):
                self.assertEqual(desk.say("show p"), shown(walk.stand()[1]))
                steps = steps_of(walk.stand())
                told = desk.say("steps p")
                self.assertEqual([] if told == "-" else told.split("; "), [" ".join([step[0], ".".join(map(str, step[1])) or "-", *map(str, step[2:])]) for step in steps])
                if steps and len(steps) < 1000 and draw.randrange(5):
                    k = draw.randrange(len(steps))
                    self.assertEqual(desk.say(f"do p {k}"), "ok")
                    walk.do(steps[k])
                elif walk.many():
                    self.assertEqual(desk.say("undo p"), "ok")
                    walk.undo()
                for n in range(walk.many() + 1):
                    self.assertEqual(desk.say(f"back p {n}"), shown(walk.behind(n)[1]))
            self.stages_told(desk, house, walk)

    def stages_told(self, desk, house, walk):
        desk.say("house q " + shown(house))
        self.assertEqual(desk.say("same p q"), "yes" if same(walk.stand(), settled(house)) else "no")
        holds, means = least_table(house)
        groups, rules = told_kinds(house)
        for place in groups:
            self.assertEqual(desk.say(f"lies p {place}"), ", ".join(f"{word} {name}" for word, name in holds[place]) or "-")
            walks, opened, goes, says = rules[groups[place]]
            wanted = [groups[place], "walks" if walks else "stays", "opened" if opened else "shut", ",".join(goes) or "-", says or "-"]
            self.assertEqual(desk.say(f"kind p {place}"), " ".join(wanted))
        for a, b in (("a", "b"), ("b", "a"), ("a", "a")):
            told = told_apart(house, a, b)
            many = {"met": lambda: f" {len(told[1])}", "never": lambda: f" {told[1]}"}.get(told[0], str)()
            self.assertEqual(desk.say(f"apart p {a} {b}"), told[0] + many)
        try:
            many, ends, runs = ends_of(house)
            self.assertEqual(desk.say("ends p"), f"{many} {len(ends)} {runs}")
        except (Again, TooMany) as why:
            with self.assertRaises(type(why)):
                desk.say("ends p")


def walkers(many):
    return " | ".join(["a[in b]"] * many + ["b[]"])


def letters(many):
    """So many unlike names."""
    return ["x" + "abcdefghijklmnopqrst"[k // 10] + "abcdefghij"[k % 10] for k in range(many)]


class Refused(unittest.TestCase):
    """[13.2] what is refused, and that it changes nothing."""

    def refused(self, desk, row, why):
        before = all_told(desk)
        with self.assertRaises(RoomError, msg=row) as caught:
            desk.say(row)
        self.assertIs(type(caught.exception), why, row)
        self.assertEqual(all_told(desk), before)
        return caught.exception

    def test_things_that_are_no_text(self):
        for thing in [thing for thing in others() + any_things() if not isinstance(thing, str)]:
            self.refused(desk_walked(), thing, NoRow)
        for row in ROWS:
            for thing in (row.encode(), [row], (row,), row.split(" "), {row: row}):
                self.refused(desk_walked(), thing, NoRow)

    def test_texts_that_are_no_rows(self):
        for row in ("", " ", "  ", "0", "a", "a[]", "say", "walk p", "house", "-", "ok", ".", "\n", "p", "p show", "names names", "do", "do 0", "do 0 p", "back 0 p", "K", "house\tp\t0"):
            self.refused(desk_walked(), row, NoRow)

    def test_the_first_word_spoilt(self):
        for row in ROWS:
            first, blank, rest = row.partition(" ")
            for word in (first + "s", first[:-1], first[1:], first.upper(), first.title(), first + "\n", "", "-" + first, first + ".", " " + first, first + " ", "q" + first):
                if word + blank + rest not in ROWS and not (word == "house " and first == "house"):
                    self.refused(desk_walked(), word + blank + rest, NoRow)

    def test_a_word_left_out(self):
        for row in ROWS:
            words = row.split(" ")
            for at in range(len(words)):
                fewer = words[:at] + words[at + 1:]
                if fewer:
                    self.refused(desk_walked(), " ".join(fewer), NoRow)

    def test_one_word_more(self):
        for row in ROWS:
            words = row.split(" ")
            for at in range(len(words) + 1):
                for word in ("p", "0", "a", "."):
                    more = words[:at] + [word] + words[at:]
                    if words[0] == "house" and at >= 2:
                        # It is a word of the text then.
                        self.refused(desk_walked(), " ".join(more), NoText)
                    elif more[0] == "house":
                        if word in ("p", "a"):
                            self.refused(desk_walked(), " ".join(more), NoText)
                        else:
                            self.refused(desk_walked(), " ".join(more), NoRow)
                    else:
                        self.refused(desk_walked(), " ".join(more), NoRow)

    def test_blanks_too_many(self):
        for row in ROWS:
            words = row.split(" ")
            self.refused(desk_walked(), " " + row, NoRow)
            self.refused(desk_walked(), row + " ", NoText if words[0] == "house" else NoRow)
            for at in range(1, len(words)):
                spoilt = " ".join(words[:at]) + "  " + " ".join(words[at:])
                self.refused(desk_walked(), spoilt, NoText if words[0] == "house" and at == 2 else NoRow)
                for other in ("\n", "\t", "", "\r", "\x0b"):
                    self.refused(desk_walked(), " ".join(words[:at]) + other + " ".join(words[at:]), NoRow)

    def test_line_feeds(self):
        for row in ROWS:
            self.refused(desk_walked(), row + "\n", NoText if row.startswith("house") else NoRow)
            self.refused(desk_walked(), "\n" + row, NoRow)

    def test_names_that_are_none(self):
        for word, at in KEPT + OTHER_NAMES + PLACES:
            for name in NO_NAMES:
                if name == "." and (word, at) in PLACES:
                    self.assertIs(type(desk_walked().say(with_word(row_of(word), at, name))), str)
                else:
                    self.refused(desk_walked(), with_word(row_of(word), at, name), NoRow)

    def test_numbers_that_are_none(self):
        for word, at in NUMBERS:
            for number in NO_NUMBERS:
                self.refused(desk_walked(), with_word(row_of(word), at, number), NoRow)

    def test_names_by_which_no_house_stands(self):
        for word, at in KEPT:
            for name in ("r", "abcdef", "pp", "names"):
                self.refused(desk_walked(), with_word(row_of(word), at, name), NoName)
                self.refused(Desk(), with_word(row_of(word), at, name), NoName)

    def test_no_row_ahead_of_no_name(self):
        for row in ("do r 00", "do r x", "back r -1", "apart r A b", "apart r a B", "lies r A", "kind r A", "same r A", "same A r", "like A r", "like n r r", "drop r r", "show r ", "undo r 0",
                    "kind r", "apart r a"):
            self.refused(desk_walked(), row, NoRow)

    def test_no_name_ahead_of_what_the_stages_refuse(self):
        for row in ("do r 999", "undo r", "back r 999", "ends r", "kind r q", "same r r", "same p r", "same r p"):
            self.refused(desk_walked(), row, NoName)

    def test_kind_of_a_name_that_the_house_has_not(self):
        for name in ("q", "abcdef", "kind"):
            self.refused(desk_walked(), f"kind p {name}", NoName)
        self.refused(desk_with(p="new k k[]"), "kind p a", NoName)
        self.assertEqual(desk_with(p="new k k[]").say("kind p k"), "k stays shut - -")

    def test_no_step(self):
        desk = desk_walked()
        self.assertEqual(desk.say("steps p"), "in - 1 0 0")
        for number in (1, 2, 10, 999):
            self.assertEqual(self.refused(desk, f"do p {number}", NoStep).at, 0)
        self.assertEqual(self.refused(desk, "do q 0", NoStep).at, 0)

    def test_nothing(self):
        desk = desk_walked()
        self.refused(desk, "undo q", Nothing)
        self.refused(desk, "back q 1", Nothing)
        self.refused(desk, "back p 2", Nothing)
        self.refused(desk, "back p 999", Nothing)
        desk.say("undo p")
        self.refused(desk, "undo p", Nothing)
        self.refused(desk, "back p 1", Nothing)

    def test_again_and_too_many(self):
        for text in ("!0", "a[in b.!<c>]"):
            self.refused(desk_with(p=text), "ends p", Again)
        self.refused(desk_with(p=" | ".join(f"{name}[in b]" for name in letters(8)) + " | b[]"), "ends p", TooMany)

    def test_what_was_handed_in_stays(self):
        desk = desk_walked()
        for thing in ([], ["names"], {"names": 1}):
            before = copy.deepcopy(thing)
            self.refused(desk, thing, NoRow)
            self.assertEqual(thing, before)


if __name__ == "__main__":
    unittest.main()
