"""[11.3] and [11.4] the house of mail, and the deeds by which mail steps are done in it."""

import copy
import unittest

import plain
from samples import any_things, drawn, drawn_mail, send_get
from walkrooms.boxes import house_of_mail, mail_deeds
from walkrooms.errors import NoStep
from walkrooms.houses import deep, is_house
from walkrooms.mail import is_mail, mail_done, mail_names, mail_steps
from walkrooms.reading import read
from walkrooms.sameness import same
from walkrooms.stands import settled
from walkrooms.steps import row_at, step_done, steps_of
from walkrooms.texts import shown
from walkrooms.walks import run

SEND = ("send", "a", "b")
GET = ("get", "a", "x", ())
LETTERS = "abcdefghij"
# Mail, boxes, and the house's text.
TOLD = (
    ((), [], "0"),
    ((), ["a"], "a[!open zio]"),
    ((), ["a", "ab", "b"], "a[!open zio] | ab[!open zio] | b[!open zio]"),
    ((SEND,), ["a", "b"], "a[!open zio] | b[!open zio] | zio[in a.<b>]"),
    ((GET,), ["a"], "a[!open zio] | new za (zio[in a.(x).za[out a]] | open za)"),
    ((GET, SEND), ["a", "b", "c"],
     "a[!open zio] | b[!open zio] | c[!open zio] | new za (zio[in a.(x).za[out a]] | open za) | zio[in a.<b>]"),
    ((("get", "a", "x", (("send", "x", "b"),)),), ["a", "b"],
     "a[!open zio] | b[!open zio] | new za (zio[in a.(x).za[out a.zio[in x.<b>]]] | open za)"),
    ((("get", "a", "x", (("send", "b", "x"), ("send", "x", "x"))),), ["a", "b"],
     "a[!open zio] | b[!open zio] | new za (zio[in a.(x).za[out a.(zio[in b.<x>] | zio[in x.<x>])]] | open za)"),
    # A part's rest is met ahead of the next part.
    ((("get", "a", "x", (("get", "x", "y", ()), ("get", "b", "v", (("get", "v", "w", ()),)))), ("get", "b", "u", ()), SEND), ["a", "b"],
     "a[!open zio] | b[!open zio] | new za (zio[in a.(x).za[out a.(new zb (zio[in x.(y).zb[out x]] | open zb)"
     " | new zc (zio[in b.(v).zc[out b.new zd (zio[in v.(w).zd[out v]] | open zd)]] | open zc))]] | open za)"
     " | new ze (zio[in b.(u).ze[out b]] | open ze) | zio[in a.<b>]"),
)


def of_gets(many):
    """Mail of many gets, one beside another."""
    return tuple([("get", "a", "x" + LETTERS[k], ()) for k in range(many)])


def deepest():
    """Mail of gets within one another, as deep as can be, with others beside them."""
    row = (("get", "a", "xd", ()), ("send", "a", "xc"))
    for x in ("xc", "xb", "xa"):
        row = (("get", "a", x, row), ("send", "a", "b"))
    return row


def boxes_for(mail, *more):
    """All free names of mail, and more."""
    return sorted({*mail_names(mail), *more})


class Houses(unittest.TestCase):
    """[11.3] the house of mail and boxes."""

    def test_texts(self):
        for mail, boxes, text in TOLD:
            self.assertTrue(is_mail(mail))
            self.assertEqual(shown(house_of_mail(mail, boxes)), text)
            self.assertEqual(house_of_mail(mail, boxes), read(text))

    def test_up_to_ten_gets(self):
        for many in (1, 2, 9, 10):
            text = " | ".join(["a[!open zio]"] + [f"new z{k} (zio[in a.(x{k}).z{k}[out a]] | open z{k})" for k in LETTERS[:many]])
            self.assertEqual(shown(house_of_mail(of_gets(many), ["a"])), text)
            within = (("get", "a", "x", of_gets(many - 1)),)
            inner = [f"new z{k} (zio[in a.(x{LETTERS[at]}).z{k}[out a]] | open z{k})" for at, k in enumerate(LETTERS[1:many])]
            rest = "" if not inner else "." + inner[0] if len(inner) == 1 else ".(" + " | ".join(inner) + ")"
            self.assertEqual(shown(house_of_mail(within, ["a"])), f"a[!open zio] | new za (zio[in a.(x).za[out a{rest}]] | open za)")

    def test_twenty_boxes(self):
        boxes = sorted("q" + letter for letter in "abcdefghijklmnopqrst")
        self.assertEqual(shown(house_of_mail((), boxes)), " | ".join(f"{box}[!open zio]" for box in boxes))
        self.assertTrue(is_house(house_of_mail((("send", "qa", "qb"),) * 20, boxes)))
        self.assertTrue(is_house(house_of_mail(of_gets(10) + (SEND,) * 10, ["a", "b", *boxes[:18]])))

    def test_it_is_a_house_as_deep_as_can_be(self):
        mail = deepest()
        self.assertTrue(is_mail(mail))
        house = house_of_mail(mail, boxes_for(mail))
        self.assertTrue(is_house(house))
        self.assertEqual(deep(house), 24)
        for mail in drawn_mail(131, 200):
            self.assertTrue(is_house(house_of_mail(mail, boxes_for(mail, "q", "r"))))

    def test_no_step_in_it_but_guests_and_agains(self):
        for mail in [deepest(), of_gets(10) + (SEND,) * 10] + drawn_mail(132, 150):
            boxes = boxes_for(mail, "q")
            stand = settled(house_of_mail(mail, boxes))
            steps = steps_of(stand)
            self.assertEqual([step for step in steps if step[0] == "again"], [("again", (k,), 0) for k in range(len(boxes))])
            others = [step for step in steps if step[0] != "again"]
            self.assertEqual(len(others), len(mail))
            for word, path, k, d, j in others:
                self.assertEqual((word, path, d, stand[1][k][1]), ("in", (), 0, "zio"))
                self.assertEqual(boxes[j], stand[1][j][1])

    def test_what_is_handed_in_stays(self):
        mail, boxes = deepest(), ["a", "b", "c"]
        before = copy.deepcopy((mail, boxes))
        first = house_of_mail(mail, boxes)
        mail_deeds(mail + (GET,), boxes, (1, len(mail)))
        self.assertEqual((mail, boxes), before)
        boxes.append("d")
        self.assertEqual(house_of_mail(mail, ["a", "b", "c"]), first)


class Deeds(unittest.TestCase):
    """[11.4] nine steps for each mail step, and nothing else is done."""

    def test_each_step_of_drawn_mail(self):
        done = 0
        for mail in drawn_mail(133, 250) + [mail + ((("send", "a", "b"),) * 2) for mail in (deepest(), of_gets(5), tuple(reversed(deepest())))]:
            for boxes in (boxes_for(mail), boxes_for(mail, "aa", "q")):
                begin = settled(house_of_mail(mail, boxes))
                for step in mail_steps(mail):
                    done += 1
                    told = mail_deeds(mail, boxes, step)
                    self.assertIs(type(told), list)
                    self.assertEqual(len(told), 9)
                    wanted = settled(house_of_mail(mail_done(mail, step), boxes))
                    self.assertTrue(same(run(begin, told), wanted), (mail, boxes, step))
        self.assertGreater(done, 300)

    def test_a_send_ahead_of_and_behind_its_get(self):
        rest = (("send", "x", "c"), ("get", "x", "y", (("send", "y", "x"),)))
        for mail, step in (((SEND, ("get", "a", "x", rest)), (0, 1)), ((("get", "a", "x", rest), SEND), (1, 0)),
                           ((("get", "b", "v", ()), SEND, ("send", "b", "b"), ("get", "a", "x", rest), ("get", "a", "w", ())), (1, 3)),
                           ((("get", "b", "v", ()), ("get", "a", "x", rest), ("send", "b", "b"), SEND, ("get", "a", "w", ())), (3, 1)),
                           ((("get", "b", "v", ()), ("get", "a", "x", rest), ("send", "b", "b"), SEND, ("get", "a", "w", ())), (3, 4))):
            boxes = boxes_for(mail)
            after = run(settled(house_of_mail(mail, boxes)), mail_deeds(mail, boxes, step))
            self.assertTrue(same(after, settled(house_of_mail(mail_done(mail, step), boxes))), (mail, step))

    def test_told_alike_and_the_askers_own(self):
        mail, boxes = (SEND, GET), ["a", "b"]
        first = mail_deeds(mail, boxes, (0, 1))
        wanted = list(first)
        first.clear()
        self.assertEqual(mail_deeds(mail, boxes, (0, 1)), wanted)

    def test_what_is_no_step(self):
        mail = (SEND, GET, ("send", "c", "b"), ("get", "d", "y", ()))
        boxes = boxes_for(mail)
        steps = [(1, 0), (0, 0), (0, 2), (0, 3), (2, 3), (2, 1), (0, 4), (4, 1), (-4, 1), (0, -3), (False, True), (False, 1), (0, True), (0, 1.0), ("0", "1"), [0, 1], (0, 1, 2), (0,), ()]
        for step in steps + any_things():
            with self.assertRaises(NoStep) as caught:
                mail_deeds(mail, boxes, step)
            self.assertEqual(caught.exception.at, 0)
        with self.assertRaises(NoStep):
            mail_deeds((), [], (0, 1))
        self.assertEqual(len(mail_deeds(mail, boxes, (0, 1))), 9)

    def test_along_drawn_runs(self):
        draw = drawn(134)
        letters = 0
        mails = [mail for mail in drawn_mail(134, 500) if mail_steps(mail)]
        for mail in mails[:150]:
            boxes = boxes_for(mail, "q")
            stand = settled(house_of_mail(mail, boxes))
            for _ in range(60):
                self.boxes_stay(stand, boxes)
                steps = steps_of(stand)
                agains = [step for step in steps if step[0] == "again" and len(row_at(stand, step[1])) < 4]
                steps = [step for step in steps if step[0] != "again"]
                if not steps + agains:
                    break
                step = draw.choice(steps * 3 + agains)
                if step[0] == "letter":
                    mail = self.mail_behind(mail, boxes, stand, step)
                    letters += 1
                stand = step_done(stand, step)
        self.assertGreater(letters, 100)

    def boxes_stay(self, stand, boxes):
        """Boxes stand in the stand's own row, each once, and nowhere else."""
        rooms = [part[1] for part in stand[1] if part[0] == "room"]
        for box in boxes:
            self.assertEqual(rooms.count(box), 1)
        for path, row in plain.all_rows(stand[1])[1:]:
            if path:
                self.assertFalse([part for part in row if part[0] == "room" and part[1] in boxes])

    def mail_behind(self, mail, boxes, stand, step):
        """The mail behind the mail step that a letter step does."""
        word, path, k, j = step
        self.assertEqual(len(path), 1)
        box = stand[1][path[0]][1]
        self.assertIn(box, boxes)
        row = row_at(stand, path)
        letter, hearer = row[k], row[j]
        pairs = [(at, to) for at, to in mail_steps(mail) if mail[at] == ("send", box, letter[1]) and mail[to][:3] == ("get", box, hearer[1])]
        self.assertTrue(pairs, (mail, box, letter, hearer))
        return mail_done(mail, pairs[0])

    def test_all_that_mail_does_is_done(self):
        draw = drawn(135)
        for mail in drawn_mail(135, 60):
            boxes = boxes_for(mail)
            stand = settled(house_of_mail(mail, boxes))
            while mail_steps(mail):
                step = draw.choice(mail_steps(mail))
                stand = run(settled(house_of_mail(mail, boxes)), mail_deeds(mail, boxes, step))
                mail = mail_done(mail, step)
                self.assertTrue(same(stand, settled(house_of_mail(mail, boxes))))
            self.assertEqual(send_get(mail)[0], set(mail_names(mail)))


if __name__ == "__main__":
    unittest.main()
