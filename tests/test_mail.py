"""[11.1] and [11.2] mail, its free names and its steps."""

import copy
import unittest

from samples import any_things, drawn, drawn_mail, nested, others, send_get
from walkrooms.errors import NoStep, RoomError
from walkrooms.mail import is_mail, mail_done, mail_names, mail_steps

SEND = ("send", "a", "b")
GET = ("get", "a", "x", ())
NAMES = ("a", "ab", "abc", "abcd", "b", "y", "az", "azzz", "ina", "outs", "news", "o", "i", "n", "say", "get", "send", "room", "ne", "w")
NO_NAMES = ("", "abcde", "abcdef", "abcdefg", "z", "za", "zio", "zabc", "in", "out", "open", "new", "A", "aB", "a1", "1", "a.1", ".", "a b", " a", "a ", "a\n", "-", "_",
            "\u00e9", "\uff41")


def deep_get(many, names="pqrstuv"):
    """Gets within one another, so many deep."""
    row = ()
    for k in reversed(range(many)):
        row = (("get", "a", names[k], row),)
    return row


class Mail(unittest.TestCase):
    """[11.1] what is mail."""

    def told(self, thing, wanted):
        self.assertIs(is_mail(thing), wanted, thing)

    def test_plain_ones(self):
        for mail in ((), (SEND,), (GET,), (SEND, GET), (SEND, SEND, SEND), (("send", "a", "a"),), (("get", "a", "x", (("send", "x", "x"),)),),
                     (("get", "a", "x", (("get", "x", "y", (("send", "y", "x"),)),)),), (("get", "a", "x", (SEND, ("send", "b", "x"))), GET[:2] + ("y", ()))):
            self.told(mail, True)

    def test_names(self):
        for name in NAMES:
            for mail in ((("send", name, "b"),), (("send", "b", name),), (("get", name, "x", ()),), (("get", "c", name, ()),), (("get", "c", "x", (("send", "d", name),)),)):
                self.told(mail, True)
        for name in NO_NAMES + tuple(others()):
            for mail in ((("send", name, "b"),), (("send", "b", name),), (("get", name, "x", ()),), (("get", "a", name, ()),), (("get", "a", "x", (("send", "a", name),)),)):
                self.told(mail, False)

    def test_twenty_parts(self):
        for many in (19, 20, 21, 22, 100, 1000):
            self.told((SEND,) * many, many <= 20)
            self.told((SEND,) * (many - 3) + (("get", "a", "x", (("send", "x", "b"), SEND)),), many <= 20)
            self.told((("get", "a", "x", (SEND,) * (many - 1)),), many <= 20)

    def test_ten_gets(self):
        for many in (9, 10, 11, 12, 20):
            gets = tuple([("get", "a", "q" + "abcdefghijklmnopqrstu"[k], ()) for k in range(many)])
            self.told(gets, many <= 10)
            self.told((("get", "a", "x", gets[1:]),), many <= 10)
            self.told(gets[:5] + (("get", "a", "x", gets[6:]),), many <= 10)

    def test_four_deep(self):
        for many in (1, 2, 3, 4, 5, 6, 7):
            self.told(deep_get(many), many <= 4)
        for many in (2, 3):
            self.told((("get", "a", "x", (("get", "a", "y", (("get", "a", "v", (SEND,) * many),)),)),), True)
        self.told((("get", "a", "x", (("get", "a", "y", (("get", "a", "v", (("get", "a", "w", (SEND,)),)),)),)),), False)
        self.told((SEND, GET, *deep_get(4)), True)
        self.told((SEND, GET, *deep_get(5)), False)

    def test_an_x_that_two_gets_bind(self):
        self.told((GET, GET), False)
        self.told((GET, ("get", "b", "y", (GET,))), False)
        self.told((("get", "b", "x", (GET,)),), False)
        self.told((GET, ("get", "b", "y", ())), True)

    def test_an_x_that_stands_outside_of_its_rest(self):
        for outside in (("send", "x", "a"), ("send", "a", "x"), ("get", "x", "y", ()), ("get", "a", "y", (("send", "x", "b"),)), ("get", "a", "y", (("send", "b", "x"),)),
                        ("get", "a", "y", (("get", "x", "v", ()),))):
            self.told((GET, outside), False)
            self.told((outside, GET), False)
            self.told((("get", "a", "x", (outside,)),), True)
            self.told((("get", "a", "x", (outside,)), outside), False)
        # Its own box is outside of its rest, too.
        self.told((("get", "x", "x", ()),), False)
        self.told((("get", "a", "y", (("get", "y", "y", ()),)),), False)
        self.told((("get", "a", "y", (("get", "y", "x", ()),)),), True)

    def test_other_forms(self):
        for thing in ([SEND], (list(SEND),), (["send", "a", "b"],), (("get", "a", "x", []),), (("get", "a", "x", [SEND]),), (("get", "a", "x", (list(SEND),)),),
                      ("send", "a", "b"), ("get", "a", "x", ()), (("send", "a"),), (("send", "a", "b", "c"),), (("send", "a", "b", ()),), (("get", "a", "x"),),
                      (("get", "a", "x", (), ()),), (("get", "a", ()),), (("get", "a", "x", SEND),), (("get", "a", "x", "b"),), (("get", "a", "x", None),), (("got", "a", "b"),),
                      (("", "a", "b"),), (("room", "a", ()),), (("SEND", "a", "b"),), ((),), (((),),), ("",), ("send",), (SEND, None), (SEND, "send"), (SEND, 1), {SEND}, {0: SEND},
                      ((b"send", "a", "b"),), ((["send"], "a", "b"),), (({}, "a", "b"),), ((None, "a", "b"),)):
            self.told(thing, False)

    def test_of_anything(self):
        for thing in any_things():
            self.told(thing, thing == () and type(thing) is tuple)
            if thing != ():
                self.told((thing,), False)
                self.told((("get", "a", "x", thing),), False)
                self.told((SEND, ("get", "a", "x", (thing,))), False)
            for other in (("send", thing, "b"), ("get", thing, "x", ()), (thing, "a", "b")):
                if thing != "a":
                    self.told((other,), False)
        for many in (2, 24, 50, 97):
            for kind in (tuple, list):
                self.told(nested(kind, many, ()), False)
                self.told((("get", "a", "x", nested(kind, many, ())),), False)
            deep = ()
            for _ in range(max(2, many // 2)):
                deep = (("get", "a", "x", deep),)
            self.told(deep, False)

    def test_free_names(self):
        for mail, wanted in (((), []), ((SEND,), ["a", "b"]), ((GET,), ["a"]), ((("send", "b", "a"), GET, SEND), ["a", "b"]), ((("send", "a", "a"),), ["a"]),
                             ((("get", "b", "x", (("send", "x", "c"), ("get", "x", "y", (("send", "y", "x"), ("send", "a", "y"))))),), ["a", "b", "c"]),
                             ((("get", "b", "x", (("send", "x", "x"),)), ("send", "ab", "aa")), ["aa", "ab", "b"])):
            told = mail_names(mail)
            self.assertIs(type(told), list)
            self.assertEqual(told, wanted)
            told.append("more")
            self.assertEqual(mail_names(mail), wanted)

    def test_free_names_of_drawn_mail(self):
        several = 0
        for mail in drawn_mail(121, 300):
            self.told(mail, True)
            told = mail_names(mail)
            self.assertEqual(told, sorted(send_get(mail)[0]))
            several += len(told) > 2
        self.assertGreater(several, 100)


class Steps(unittest.TestCase):
    """[11.2] mail steps."""

    def refused(self, mail, step):
        with self.assertRaises(NoStep) as caught:
            mail_done(mail, step)
        self.assertEqual(caught.exception.at, 0)
        self.assertIsInstance(caught.exception, RoomError)

    def test_a_send_ahead_and_behind(self):
        for mail, step in (((SEND, GET), (0, 1)), ((GET, SEND), (1, 0))):
            told = mail_steps(mail)
            self.assertIs(type(told), list)
            self.assertEqual(told, [step])
            self.assertEqual(mail_done(mail, step), ())

    def test_rests_come_at_the_end(self):
        rest = (("send", "c", "x"), ("send", "x", "d"), ("get", "x", "y", (("send", "y", "x"), ("get", "y", "v", (("send", "v", "x"), ("send", "x", "x"))))), ("send", "e", "f"))
        wanted = (("send", "c", "b"), ("send", "b", "d"), ("get", "b", "y", (("send", "y", "b"), ("get", "y", "v", (("send", "v", "b"), ("send", "b", "b"))))), ("send", "e", "f"))
        for before in ((), (("send", "q", "r"),), (("get", "q", "p", ()),)):
            for between in ((), (("send", "s", "t"), ("get", "t", "o", (("send", "o", "o"),)))):
                mail = (*before, SEND, *between, ("get", "a", "x", rest), ("send", "u", "a"))
                self.assertTrue(is_mail(mail))
                step = (len(before), len(before) + 1 + len(between))
                self.assertEqual(mail_done(mail, step), (*before, *between, ("send", "u", "a"), *wanted))
                mail = (*before, ("get", "a", "x", rest), *between, SEND, ("send", "u", "a"))
                self.assertEqual(mail_done(mail, (step[1], step[0])), (*before, *between, ("send", "u", "a"), *wanted))

    def test_several_steps_sorted(self):
        mail = (("get", "a", "x", ()), SEND, ("send", "b", "a"), ("get", "a", "y", (SEND,)), ("get", "b", "v", ()), ("send", "a", "c"), ("get", "c", "w", ()))
        self.assertEqual(mail_steps(mail), [(1, 0), (1, 3), (2, 4), (5, 0), (5, 3)])
        for mail in drawn_mail(122, 300):
            told = mail_steps(mail)
            self.assertEqual(told, sorted(told))
            pairs = [(k, j) for k in range(len(mail)) for j in range(len(mail))]
            self.assertEqual(told, [(k, j) for k, j in pairs if mail[k][0] == "send" and mail[j][0] == "get" and mail[k][1] == mail[j][1]])

    def test_told_steps_are_the_askers_own(self):
        mail = (SEND, GET)
        mail_steps(mail).clear()
        self.assertEqual(mail_steps(mail), [(0, 1)])

    def test_pairs_that_are_none(self):
        mail = (SEND, GET, ("send", "c", "b"), ("get", "d", "y", ()))
        for step in ((1, 0), (0, 0), (1, 1), (0, 2), (0, 3), (2, 1), (2, 3), (0, 4), (4, 1), (0, 10 ** 50), (-4, 1), (0, -3), (-4, -3), (False, True), (False, 1), (0, True),
                     (0.0, 1), (0, 1.0), ("0", "1"), ("0", 1), (0, "1"), [0, 1], [(0, 1)], (0, 1, 2), (0, 1, 0), (0,), (), ((0, 1),), ((0,), (1,)), (0, None), "01", b"\x00\x01", 1,
                     {0: 1}, {0, 1}, range(2), (0, [1]), ("letter", (), 0, 1)):
            self.refused(mail, step)
        self.assertEqual(mail_done(mail, (0, 1)), mail[2:])

    def test_of_anything(self):
        for mail in ((), (SEND, GET), (GET, SEND), (SEND,), (GET,)):
            for thing in any_things():
                self.refused(mail, thing)
                for step in ((thing, 1), (0, thing), (thing, thing), (0, 1, thing)):
                    if thing != 1 or type(thing) is not int or step[0] == step[1]:
                        if not (step[:2] == (0, 1) and len(step) == 2 and type(step[0]) is int and type(step[1]) is int):
                            self.refused(mail, step)

    def test_each_pair_of_drawn_mail(self):
        done = 0
        for mail in drawn_mail(123, 500):
            before = copy.deepcopy(mail)
            steps = mail_steps(mail)
            for k in range(-1, len(mail) + 1):
                for j in range(-1, len(mail) + 1):
                    if (k, j) in steps:
                        done += 1
                        told = mail_done(mail, (k, j))
                        self.assertIs(type(told), tuple)
                        self.assertTrue(is_mail(told))
                        self.assertEqual(told[:len(mail) - 2], tuple([part for at, part in enumerate(mail) if at not in (k, j)]))
                        text = repr(mail[j][3]).replace(repr(mail[j][2]), repr(mail[k][2]))
                        self.assertEqual(repr(told[len(mail) - 2:]), text)
                    else:
                        self.refused(mail, (k, j))
            self.assertEqual(mail, before)
        self.assertGreater(done, 200)

    def test_runs_end(self):
        draw = drawn(124)
        for mail in drawn_mail(124, 100):
            gets = repr(mail).count("'get'")
            many = 0
            while mail_steps(mail):
                mail = mail_done(mail, draw.choice(mail_steps(mail)))
                many += 1
            self.assertLessEqual(many, gets)


if __name__ == "__main__":
    unittest.main()
