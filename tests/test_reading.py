"""[2.2] what is written of a house is read to it again; all else is refused with NoText."""

import itertools
import re
import unittest

from samples import any_things, chain, drawn_houses, each_place, name_number, part, THREES, wide
from walkrooms.errors import NoText
from walkrooms.houses import is_house
from walkrooms.reading import read
from walkrooms.texts import shown

# Each form that 2.1 writes, in each place.
FORMS = (
    ("0", ()),
    ("a[]", (("room", "a", ()),)),
    ("a[b[] | <c>]", (("room", "a", (("room", "b", ()), ("say", "c"))),)),
    ("a[b[c[]]]", (("room", "a", (("room", "b", (("room", "c", ()),)),)),)),
    ("<n>", (("say", "n"),)),
    ("in a", (("in", "a", ()),)),
    ("out a", (("out", "a", ()),)),
    ("open a", (("open", "a", ()),)),
    ("in a.b[]", (("in", "a", (("room", "b", ()),)),)),
    ("out a.(b[] | <c>)", (("out", "a", (("room", "b", ()), ("say", "c"))),)),
    ("open a.in b.out c", (("open", "a", (("in", "b", (("out", "c", ()),)),)),)),
    ("(x)", (("hear", "x", ()),)),
    ("(x).<x>", (("hear", "x", (("say", "x"),)),)),
    ("(x).(y)", (("hear", "x", (("hear", "y", ()),)),)),
    ("(x).(<x> | in x.open x)", (("hear", "x", (("say", "x"), ("in", "x", (("open", "x", ()),)))),)),
    ("in a.((x) | (y).<y>)", (("in", "a", (("hear", "x", ()), ("hear", "y", (("say", "y"),)))),)),
    ("new k 0", (("new", "k", ()),)),
    ("new k (k[] | open k)", (("new", "k", (("room", "k", ()), ("open", "k", ()))),)),
    ("new k k[in a]", (("new", "k", (("room", "k", (("in", "a", ()),)),)),)),
    ("new k (x)", (("new", "k", (("hear", "x", ()),)),)),
    ("new k ((x) | <k>)", (("new", "k", (("hear", "x", ()), ("say", "k"))),)),
    ("new a new b (c)", (("new", "a", (("new", "b", (("hear", "c", ()),)),)),)),
    ("!0", (("again", ()),)),
    ("!!0", (("again", (("again", ()),)),)),
    ("!(x)", (("again", (("hear", "x", ()),)),)),
    ("!open a.a[]", (("again", (("open", "a", (("room", "a", ()),)),)),)),
    ("!(a[] | !0)", (("again", (("room", "a", ()), ("again", ()))),)),
    ("a[] | <b> | in c | !0", (("room", "a", ()), ("say", "b"), ("in", "c", ()), ("again", ()))),
    ("a[in b.(c[] | (x).x[new k 0]) | !(y).<y>] | open room", (
        ("room", "a", (("in", "b", (("room", "c", ()), ("hear", "x", (("room", "x", (("new", "k", ()),)),)))),
                       ("again", (("hear", "y", (("say", "y"),)),)))), ("open", "room", ()))),
)
SIGNS = "abknxz0|[]<>().! |\n1"


def words_around(signs):
    """Texts in which a run of signs stands in each place of a part that a row can have."""
    return [signs, "a[" + signs + "]", "in a." + signs, "(x)." + signs, "new k " + signs, "!" + signs,
            "<a> | " + signs, signs + " | <a>", "a[<a> | " + signs + "]", "in a.(<a> | " + signs + ")"]


class Reading(unittest.TestCase):
    def refused(self, thing):
        with self.assertRaises(NoText, msg=repr(thing)[:200]):
            read(thing)

    def right_or_refused(self, text):
        """Whether a text is read; where it is, it must be the very text of that house."""
        try:
            row = read(text)
        except NoText:
            return False
        self.assertIs(is_house(row), True, text)
        self.assertEqual(shown(row), text)
        return True

    def test_each_form_is_read_and_written_again(self):
        for text, row in FORMS:
            self.assertEqual(read(text), row, text)
            self.assertEqual(shown(read(text)), text)

    def test_forms_within_one_another(self):
        for text, row in FORMS[1:]:
            if "(" in text or "new" in text:
                continue
            group = "(" + text + ")" if len(row) > 1 else text
            for before, name, after in (("r[", "room", "]"), ("in r.", "in", ""), ("(r).", "hear", ""), ("new r ", "new", "")):
                inner = text if name == "room" else group
                self.assertEqual(read(before + inner + after), ((name, "r", row),))
            self.assertEqual(read("!" + group), (("again", row),))
            self.assertEqual(read(text + " | " + text), row + row)

    def test_drawn_houses(self):
        for house in drawn_houses(1, 1500):
            self.assertEqual(read(shown(house)), house)

    def test_the_largest_and_the_deepest(self):
        self.assertEqual(read(shown(wide(400))), wide(400))
        for words in [(word,) for word in THREES] + [("again",), THREES + ("again",)]:
            row = chain(words, 24)
            self.assertEqual(read(shown(row)), row)
        rooms = tuple([("room", name_number(k), ()) for k in range(400)])
        self.assertEqual(read(shown(rooms)), rooms)

    def test_one_sign_left_out_put_in_or_exchanged(self):
        read_again = 0
        for text, row in FORMS:
            for at in range(len(text) + 1):
                self.right_or_refused(text[:at] + text[at + 1:])
                for sign in SIGNS:
                    read_again += self.right_or_refused(text[:at] + sign + text[at:])
                    read_again += self.right_or_refused(text[:at] + sign + text[at + 1:])
        self.assertGreater(read_again, 100)

    def test_all_texts_of_a_few_words(self):
        tokens = ("a", "x", "in ", "new ", " ", " | ", "[", "]", "(", ")", "<", ">", ".", "!", "0")
        told = set()
        for size in range(5):
            for words in itertools.product(tokens, repeat=size):
                text = "".join(words)
                # Other names, as of two of these words, would only be more of the same.
                if self.right_or_refused(text) and set(re.findall("[a-z]+", text)) <= {"a", "x", "in", "new"}:
                    told.add(text)
        self.assertEqual(sorted(told), sorted(few_word_texts(tokens)))

    def test_brackets_that_need_not_be(self):
        for text in ("(a[])", "in a.(b[])", "in a.()", "in a.(0)", "new k (k[])", "new k (0)", "new k ()", "!(a[])", "!(0)", "!()",
                     "(a[] | b[])", "((x))", "!((x))", "in a.((x))", "(<a>)", "in a.((b[] | c[]))", "new k ((k[] | open k))",
                     "()", "(0)", "((x) | (y))", "a[(b[] | c[])]", "a[(b[])]", "a[()]", "in a.(b[] | (c[] | d[]))", "(x).(<x>)",
                     "(x).((x))", "a[] | (b[])", "[]", "[a[]]", "<<a>>", "a[[]]"):
            self.refused(text)

    def test_noughts(self):
        for text in ("", "00", "0 | 0", "0 | a[]", "a[] | 0", "a[0]", "in a.0", "open a.0", "out a.0", "(x).0", "a[b[0]]", "new k", "new k ",
                     "!", "!a[0]", "in a.(0 | b[])", "a[0 | b[]]", "!(0 | a[])", "new k (k[] | 0)", "0a[]", "a[]0", "0.a[]", "!00", "o", "O",
                     "a[] | ", " | a[]", "a[ | ]", "in a.", "(x).", "a[] |  | b[]", "!()", "in a.( | )", "00[]"):
            self.refused(text)

    def test_blanks_and_line_feeds(self):
        for text, row in FORMS:
            for more in (" ", "\n", "\t", "\r", "  ", "\x00"):
                self.refused(more + text)
                self.refused(text + more)
            for at, sign in enumerate(text):
                if sign == " ":
                    for other in ("", "  ", "\n", "\t", "\xa0"):
                        self.refused(text[:at] + other + text[at + 1:])
        for text in ("a []", "a[ ]", "a[b[]|c[]]", "a[]|b[]", "a[] |b[]", "a[]| b[]", "< a>", "<a >", "( x)", "(x )", "in a. b[]", "in a .b[]",
                     "ina", "newk 0", "new k(k[] | <k>)", "new k  0", "! 0", "in a.( b[] | <c>)", "in a.(b[] | <c> )", "(x) .<x>"):
            self.refused(text)

    def test_the_taken_words_are_no_callings(self):
        for word in ("in", "out", "open", "new"):
            for text in (word + "[]", "<" + word + ">", "(" + word + ")", "in " + word, "out " + word, "open " + word, "new " + word + " 0",
                         word, word + " ", "a[" + word + "[]]", "(" + word + ").<" + word + ">", "new " + word + " " + word + "[]"):
                for around in words_around(text):
                    self.refused(around)
        for word in ("room", "say", "hear", "again", "letter"):
            for text in (word + " a", word + " a.b[]", word + " a 0", word):
                self.refused(text)
            self.assertEqual(read(word + "[]"), (("room", word, ()),))

    def test_wrong_callings(self):
        for name in ("", "abcdefg", "A", "aB", "a1", "1", "a_b", "a-b", "\xe4", "a.1", "key.3", "a.", ".1", "a.0", "abcdef.999999"):
            for text in (name + "[]", "<" + name + ">", "(" + name + ")", "in " + name, "out " + name, "open " + name, "new " + name + " 0"):
                for around in words_around(text):
                    self.refused(around)

    def test_rows_that_are_no_house(self):
        for row in ((("hear", "x", ()), ("hear", "x", ())), (("new", "x", (("hear", "x", ()),)),), (("room", "x", (("new", "x", ()),)),)):
            self.refused(shown(row))
        for binder in ("hear", "new"):
            bind = (binder, "x", (("say", "x"),))
            for place, user in each_place("x"):
                self.refused(shown((bind, user)))
                self.refused(shown((user, ("again", (bind,)))))
                self.assertEqual(read(shown(((binder, "x", (user,)),))), ((binder, "x", (user,)),), place)
        self.refused(shown(wide(401)))
        self.refused(shown((("room", "a", wide(400)),)))
        for words in [(word,) for word in THREES] + [("again",), ("again", "hear")]:
            for many in (25, 26, 40):
                self.refused(shown(chain(words, many)))
                self.refused(shown(chain(words, many) + (("say", "a"),)))
                self.refused(shown((("say", "a"), part("again", "", *chain(words, many)))))

    def test_texts_that_nest_deep(self):
        for many in (25, 100, 1000, 2000, 4000, 8999):
            for before, within, after in (("a[", "", "]"), ("(", "a[]", ")"), ("(", "x", ")"), ("in a.", "b[]", ""), ("in a.(", "b[]", " | <c>)"),
                                          ("(x).", "<x>", ""), ("!", "0", ""), ("!(", "0", " | <a>)"), ("new k ", "0", ""),
                                          ("new k (", "0", " | <a>)"), ("<", "a", ">"), ("open a.", "0", ""), (".", "", ""), ("[", "", "]"),
                                          ("a[in b.!new k (x).(<a> | ", "0", ")]"), ("out a.!", "0", ""), ("!(x).", "0", ""), ("a", "", "")):
                each = len(before) + len(after)
                times = min(many, 9000 // each)
                for text in (before * times + within + after * times, before * times, before * times + within):
                    if times > 24:
                        self.refused(text[:9000])

    def test_long_texts(self):
        for text in ("a" * 9000, " " * 9000, "|" * 9000, " | " * 3000, "<a> | " * 1400 + "<a>", "(" + "a" * 8000, "." * 9000, "0" * 9000,
                     "in " * 3000, "new " * 2250, "new k " * 1500, "()" * 4500, "[]" * 4500, "<>" * 4500, "\n" * 9000):
            self.refused(text)

    def test_things_of_other_kinds(self):
        for thing in any_things():
            if isinstance(thing, str) and thing == "0":
                continue
            self.refused(thing)
        for text, row in FORMS:
            for thing in (text.encode(), [text], (text,), {text: text}, row, list(text), list(row)):
                self.refused(thing)

    def test_told_alike_and_refusals_change_nothing(self):
        for text, row in FORMS:
            first = read(text)
            self.refused(text + " ")
            self.assertEqual(read(text), first)
            self.assertIs(type(first), tuple)


def few_word_texts(tokens):
    """All texts of up to four of the tokens that houses with names a and x are written as, made from the houses."""
    names = ("a", "x")
    told = set()
    single = []
    for name in names:
        single += [("room", name, ()), ("say", name), ("in", name, ()), ("hear", name, ()), ("new", name, ())]
    single += [("again", ())]
    level = list(single)
    every = list(single)
    # Four words write at most four parts, one within another, or two beside each other.
    for _ in range(3):
        deeper = []
        for inner in level:
            for name in names:
                deeper += [("room", name, (inner,)), ("in", name, (inner,)), ("hear", name, (inner,)), ("new", name, (inner,))]
            deeper.append(("again", (inner,)))
        level = deeper
        every += deeper
    rows = [()] + [(one,) for one in every] + [(one, other) for one in single for other in single]
    for row in rows:
        if is_house(row):
            told.add(shown(row))
    return [text for text in told if word_count(text, tokens) <= 4]


def word_count(text, tokens):
    """The fewest tokens that make up the text; more than ten where none do."""
    fewest = [0] + [99] * len(text)
    for end in range(1, len(text) + 1):
        for token in tokens:
            if text[:end].endswith(token):
                fewest[end] = min(fewest[end], fewest[end - len(token)] + 1)
    return fewest[-1]


if __name__ == "__main__":
    unittest.main()
