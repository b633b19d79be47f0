"""[1.1] names, private names, bases."""

import unittest

from samples import LETTERS, nested, others
from walkrooms.names import base_of, is_name, is_private

NAMES = (
    "a", "m", "z", "ab", "az", "zz", "abc", "abcd", "abcde", "abcdef", "zzzzzz", "aaaaaa", "key",
    "room", "say", "hear", "again",
    "i", "n", "o", "inn", "ino", "ni", "outs", "ou", "ut", "opens", "ope", "pen", "news", "ne", "ew", "inout", "anew",
)
NO_NAMES = (
    "", "in", "out", "open", "new", "abcdefg", "zzzzzzzz", "a" * 7, "a" * 60, "a" * 9000,
    "A", "Z", "Ab", "aB", "abC", "ABCDEF", "In", "OUT", "0", "1", "9", "a1", "1a", "a0b", "123456",
    ".", "a.", ".a", "a.b", "a.1", "key.3", "a b", " a", "a ", " ", "a\n", "\na", "\n", "a\t", "a_b", "_", "a-b",
    "`", "{", "@", "[", "a`", "a{", "~", "!", "<a>", "(a)", "a[]", "a|b", "\0", "a\0",
)
PRIVATES = (
    "a.1", "a.2", "a.9", "key.3", "key.10", "key.19", "key.90", "z.99", "a.100", "a.12345", "a.100000", "a.123456",
    "a.999999", "abcdef.1", "abcdef.999999", "room.1", "say.2", "inn.1", "news.7",
)
NO_PRIVATES = (
    "", ".", "a", "key", "abcdef", "in", "1", "3", "a.", "a.0", "a.00", "a.01", "a.007", "a.000001", "a.012345",
    "a.1000000", "a.1234567", "a.0123456", "a.12345678901", ".1", "..1", "a..1", "a.1.", "a.1.2", "a.b.1", "1.1", "a1.1",
    "in.1", "out.1", "open.1", "new.1", "abcdefg.1", "A.1", "aB.1", "a.a", "a.1a", "a.a1", "a.x", "a.1x2",
    "a. 1", "a.1 ", " a.1", "a .1", "a.1\n", "a\n.1", "a.\n1", "a.+1", "a.-1", "a.1_0", "a.1,0", "a.1e2", "a.0x1",
    "a,1", "a1", "a:1", "a.:", "a./", "a.1/", "a.1:", "a.b", "a_.1", "key.3.3",
)


class Names(unittest.TestCase):
    def test_names(self):
        for text in NAMES:
            with self.subTest(text=text):
                self.assertIs(is_name(text), True)

    def test_each_small_letter_is_one_and_nothing_else_of_one_sign(self):
        for code in range(128):
            self.assertIs(is_name(chr(code)), chr(code) in LETTERS, repr(chr(code)))
            self.assertIs(is_name("ab" + chr(code) + "cd"), chr(code) in LETTERS, repr(chr(code)))

    def test_one_to_six_letters(self):
        for many in range(20):
            self.assertIs(is_name("k" * many), 1 <= many <= 6, many)

    def test_other_texts_are_none(self):
        for text in NO_NAMES:
            with self.subTest(text=text[:20]):
                self.assertIs(is_name(text), False)

    def test_private_names_are_none(self):
        for text in PRIVATES:
            self.assertIs(is_name(text), False, text)

    def test_of_things_of_any_kind(self):
        for thing in others() + [(), ("a",), ("a", "b"), (1, None), ([],), ({}, [b"a", (True,)])]:
            self.assertIs(is_name(thing), False, repr(thing))
        self.assertIs(is_name(nested(tuple, 100, "a")), False)
        self.assertIs(is_name(nested(list, 100, "a")), False)


class Privates(unittest.TestCase):
    def test_private_names(self):
        for text in PRIVATES:
            with self.subTest(text=text):
                self.assertIs(is_private(text), True)

    def test_other_texts_are_none(self):
        for text in NO_PRIVATES + NAMES:
            with self.subTest(text=text):
                self.assertIs(is_private(text), False)

    def test_one_to_six_figures(self):
        for many in range(20):
            self.assertIs(is_private("a." + "7" * many), 1 <= many <= 6, many)
            self.assertIs(is_private("a.1" + "0" * many), many <= 5, many)

    def test_which_signs_are_figures(self):
        for code in range(128):
            sign = chr(code)
            self.assertIs(is_private("a." + sign), sign in "123456789", repr(sign))
            self.assertIs(is_private("a.1" + sign), sign in "0123456789", repr(sign))
            self.assertIs(is_private("a.1" + sign + "1"), sign in "0123456789", repr(sign))

    def test_the_base_is_a_name(self):
        for text in NAMES:
            self.assertIs(is_private(text + ".5"), True, text)
        for text in NO_NAMES:
            self.assertIs(is_private(text + ".5"), False, text[:20])

    def test_of_things_of_any_kind(self):
        for thing in others() + [(), ("a.1",), ("a", 1), ("a", ".", "1"), (1, None), ([],), ({}, [b"a", (True,)])]:
            self.assertIs(is_private(thing), False, repr(thing))
        self.assertIs(is_private(["a.1"]), False)
        self.assertIs(is_private(nested(tuple, 100, "a.1")), False)
        self.assertIs(is_private(nested(list, 100, "a.1")), False)


class Bases(unittest.TestCase):
    def test_of_a_name_itself(self):
        for text in NAMES:
            self.assertEqual(base_of(text), text)

    def test_of_a_private_name_what_is_ahead_of_its_dot(self):
        for text, base in (("key.3", "key"), ("a.1", "a"), ("a.10", "a"), ("abcdef.999999", "abcdef"), ("z.100000", "z")):
            self.assertEqual(base_of(text), base)
        for text in NAMES:
            self.assertEqual(base_of(text + ".42"), text)

    def test_told_alike_and_nothing_changed(self):
        things = [["a"], {"a": ["a.1"]}, ("a", [1])]
        for thing in things:
            is_name(thing)
            is_private(thing)
        self.assertEqual(things, [["a"], {"a": ["a.1"]}, ("a", [1])])
        for text in NAMES + PRIVATES + NO_NAMES:
            self.assertEqual((is_name(text), is_private(text)), (is_name(text), is_private(text)))


if __name__ == "__main__":
    unittest.main()
