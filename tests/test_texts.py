"""[2.1] how a row is written."""

import unittest

from samples import chain
from walkrooms.texts import shown

A = ("room", "a", ())
B = ("say", "b")
C = ("in", "c", ())
DEEDS = ("in", "out", "open")


class Shown(unittest.TestCase):
    def test_the_examples_of_the_point(self):
        for row, text in (
            ((("room", "a", (("room", "b", ()), ("say", "c"))),), "a[b[] | <c>]"),
            ((("in", "a", ()),), "in a"),
            ((("in", "a", (("room", "b", ()),)),), "in a.b[]"),
            ((("hear", "x", (("say", "x"), ("in", "x", (("open", "x", ()),)))),), "(x).(<x> | in x.open x)"),
            ((("new", "k", (("room", "k", ()), ("open", "k", ()))),), "new k (k[] | open k)"),
            ((("new", "k", (("room", "k", (("in", "a", ()),)),)),), "new k k[in a]"),
            ((("again", (("open", "a", (("room", "a", ()),)),)),), "!open a.a[]"),
            ((("again", ()),), "!0"),
        ):
            with self.subTest(text=text):
                self.assertEqual(shown(row), text)

    def test_a_row_without_parts(self):
        self.assertEqual(shown(()), "0")
        self.assertEqual(shown((A,)), "a[]")
        for word in DEEDS:
            self.assertEqual(shown(((word, "n", ()),)), word + " n")
        self.assertEqual(shown((("hear", "x", ()),)), "(x)")
        self.assertEqual(shown((("new", "x", ()),)), "new x 0")
        self.assertEqual(shown((("again", ()),)), "!0")

    def test_rows_of_several_parts(self):
        self.assertEqual(shown((B,)), "<b>")
        self.assertEqual(shown((A, B)), "a[] | <b>")
        self.assertEqual(shown((B, A)), "<b> | a[]")
        self.assertEqual(shown((A, B, C, A)), "a[] | <b> | in c | a[]")

    def test_rooms(self):
        self.assertEqual(shown((("room", "r", (B,)),)), "r[<b>]")
        self.assertEqual(shown((("room", "r", (A, B)),)), "r[a[] | <b>]")
        self.assertEqual(shown((("room", "r", (A, B, C)),)), "r[a[] | <b> | in c]")
        self.assertEqual(shown((("room", "r", (("room", "s", (("room", "t", ()),)),)),)), "r[s[t[]]]")
        self.assertEqual(shown((("room", "r", (("again", ()), ("new", "k", ()))),)), "r[!0 | new k 0]")

    def test_one_part_and_several_behind_each(self):
        one = ((A, "a[]"), (B, "<b>"), (C, "in c"), (("hear", "y", ()), "(y)"), (("hear", "y", (B,)), "(y).<b>"),
               (("new", "k", ()), "new k 0"), (("again", ()), "!0"), (("again", (B,)), "!<b>"),
               (("new", "k", (A, B)), "new k (a[] | <b>)"), (("open", "d", (A, B)), "open d.(a[] | <b>)"),
               (("again", (A, B)), "!(a[] | <b>)"))
        for part, text in one:
            for word in DEEDS:
                self.assertEqual(shown(((word, "n", (part,)),)), word + " n." + text)
                self.assertEqual(shown(((word, "n", (part, B)),)), word + " n.(" + text + " | <b>)")
                self.assertEqual(shown(((word, "n", (A, part, C)),)), word + " n.(a[] | " + text + " | in c)")
            self.assertEqual(shown((("hear", "x", (part,)),)), "(x)." + text)
            self.assertEqual(shown((("hear", "x", (part, B)),)), "(x).(" + text + " | <b>)")
            self.assertEqual(shown((("new", "x", (part,)),)), "new x " + text)
            self.assertEqual(shown((("new", "x", (part, B)),)), "new x (" + text + " | <b>)")
            self.assertEqual(shown((("again", (part,)),)), "!" + text)
            self.assertEqual(shown((("again", (part, B)),)), "!(" + text + " | <b>)")
            self.assertEqual(shown((("again", (A, C, part)),)), "!(a[] | in c | " + text + ")")
            self.assertEqual(shown((("room", "r", (part,)),)), "r[" + text + "]")
            self.assertEqual(shown((part, part)), text + " | " + text)

    def test_one_behind_the_other(self):
        self.assertEqual(shown((("in", "a", (("out", "b", (("open", "c", ()),)),)),)), "in a.out b.open c")
        self.assertEqual(shown((("in", "a", (("hear", "x", (("again", (("new", "k", ()),)),)),)),)), "in a.(x).!new k 0")
        self.assertEqual(shown((("new", "a", (("new", "b", (("hear", "c", ()),)),)),)), "new a new b (c)")
        self.assertEqual(shown((("again", (("again", (("again", ()),)),)),)), "!!!0")
        self.assertEqual(shown((("in", "a", (("out", "b", (A, B)), C)),)), "in a.(out b.(a[] | <b>) | in c)")

    def test_rows_of_the_document(self):
        up = (("again", (("open", "la", (("open", "ra", (("hear", "xa", (("new", "ca", (
            ("room", "ra", (("say", "ca"),)),
            ("room", "ca", (("say", "more"), ("open", "ok", (("say", "xa"),)))),
            ("room", "lb", ()),
        )),)),)),)),)),)
        self.assertEqual(shown(up), "!open la.open ra.(xa).new ca (ra[<ca>] | ca[<more> | open ok.<xa>] | lb[])")
        get = (("new", "za", (
            ("room", "zio", (("in", "n", (("hear", "x", (("room", "za", (("out", "n", ()),)),)),)),)),
            ("open", "za", ()),
        )),)
        self.assertEqual(shown(get), "new za (zio[in n.(x).za[out n]] | open za)")

    def test_private_names_as_they_are(self):
        row = (("room", "key.3", (("say", "a.10"),)), ("in", "b.1", (("out", "c.999999", ()),)),
               ("hear", "x", (("open", "key.3", ()), ("say", "x"))))
        self.assertEqual(shown(row), "key.3[<a.10>] | in b.1.out c.999999 | (x).(open key.3 | <x>)")
        self.assertEqual(shown((("in", "a.1", (B,)),)), "in a.1.<b>")

    def test_rows_within_rows(self):
        row = (("room", "a.1", (("in", "b", (A, ("say", "x"))),)),)
        self.assertEqual(shown(row[0][2]), "in b.(a[] | <x>)")
        self.assertEqual(shown(row[0][2][0][2]), "a[] | <x>")

    def test_deep_rows(self):
        row = ()
        for k in range(40):
            row = (("room", "a", row),)
        self.assertEqual(shown(row), "a[" * 40 + "]" * 40)
        row = ()
        for k in range(20):
            row = (("room", "r", (("in", "n", row), ("say", "b"))),)
        self.assertEqual(shown(row), "r[in n." * 19 + "r[in n" + " | <b>]" * 20)
        self.assertEqual(shown(chain(("again",), 24)), "!" * 24 + "0")

    def test_told_alike_and_the_row_stays(self):
        row = (("room", "a", (A, B, C)), ("again", (("hear", "x", (("say", "x"),)),)))
        before = repr(row)
        self.assertEqual(shown(row), shown(row))
        self.assertEqual(repr(row), before)
        self.assertIs(type(shown(row)), str)


if __name__ == "__main__":
    unittest.main()
