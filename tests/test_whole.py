"""[0.2] and [0.4] over the whole program: all that is told of a house holds together along its runs."""

import unittest

import plain
from samples import drawn, drawn_houses, drawn_mail
from test_machines import MIXED, MOVER
from walkrooms.boxes import house_of_mail, mail_deeds
from walkrooms.building import house_of_machine, machine_deeds
from walkrooms.desk import Desk
from walkrooms.ends import ends_of
from walkrooms.errors import RoomError
from walkrooms.houses import bound_in, deep, free_in, is_house, parts_in
from walkrooms.kinds import keeps
from walkrooms.least import least_table
from walkrooms.mail import mail_names, mail_steps
from walkrooms.meeting import may_come, told_apart
from walkrooms.reading import read
from walkrooms.sameness import renaming, same
from walkrooms.stands import privates_in, settled
from walkrooms.steps import row_at, step_done, steps_of
from walkrooms.tables import lets_table
from walkrooms.telling import told_kinds
from walkrooms.texts import shown


def all_houses():
    """Drawn houses, houses of mail, and houses of machines."""
    told = drawn_houses(161, 40, least_deep=3)
    told += [house_of_mail(mail, mail_names(mail)) for mail in drawn_mail(161, 25)]
    return told + [house_of_machine(MOVER, (0, (1, 0, 1))), house_of_machine(MIXED, (1, (0, 1, 0)))]


def questions(house):
    """What can be asked of a house, each as something to call."""
    stand = settled(house)
    holds, means = least_table(house)
    groups, rules = told_kinds(house)

    def desk():
        keeper = Desk()
        return [keeper.say(row) for row in ("house p " + shown(house), "show p", "steps p", "like q p", "same p q", "lies p .", "apart p a b", "kind p .", "drop q", "names")]

    def ends():
        try:
            return ends_of(house, 20)
        except RoomError as why:
            return type(why).__name__

    return [
        lambda: is_house(house), lambda: (parts_in(house), deep(house)), lambda: free_in(house), lambda: bound_in(house), lambda: shown(house), lambda: read(shown(house)),
        lambda: settled(house), lambda: privates_in(stand[1]), lambda: steps_of(stand), lambda: [step_done(stand, step) for step in steps_of(stand)[:20]],
        lambda: row_at(stand, ()), lambda: same(stand, stand), lambda: renaming(stand, stand) is not None, lambda: least_table(house), lambda: lets_table(house, holds, means),
        lambda: told_kinds(house), lambda: keeps(house, groups, rules), lambda: told_apart(house, "a", "b", 20), lambda: may_come(holds, "a", "."), ends, desk,
    ]


class Whole(unittest.TestCase):
    def test_all_that_is_told_holds_along_runs(self):
        draw = drawn(162)
        words = set()
        for house in all_houses():
            holds, means = least_table(house)
            groups, rules = told_kinds(house)
            self.assertTrue(lets_table(house, holds, means) and keeps(house, groups, rules))
            names = sorted(plain.all_names(house))
            apart = [(a, b) for a in names for b in names if not may_come(holds, a, b)]
            stand = settled(house)
            for _ in range(15):
                heard = plain.heard_names(stand[1])
                self.assertTrue(all(plain.lies(part, ".", holds, means, heard) for part in stand[1]))
                within = pairs_within(stand[1])
                self.assertFalse([pair for pair in apart if pair in within])
                steps = steps_of(stand)
                self.assertEqual(steps, plain.steps_tried(stand))
                if not steps:
                    break
                step = draw.choice([one for one in steps if one[0] != "again"] * 2 + steps)
                words.add(step[0])
                self.assertEqual(step_done(stand, step), plain.behind(stand, step))
                stand = step_done(stand, step)
        self.assertEqual(sorted(words), ["again", "in", "letter", "open", "out"])

    def test_told_alike_whatever_was_asked_between(self):
        asked = [question for house in all_houses() for question in questions(house)]
        first = [repr(question()) for question in asked]
        second = [repr(question()) for question in reversed(asked)]
        self.assertEqual(first, second[::-1])

    def test_deeds_that_were_told_lead_where_the_houses_may_go(self):
        draw = drawn(163)
        for mail in drawn_mail(163, 120):
            if mail_steps(mail):
                boxes = mail_names(mail)
                house = house_of_mail(mail, boxes)
                self.steps_are_kept(house, mail_deeds(mail, boxes, draw.choice(mail_steps(mail))))
        for state in ((0, (1, 0, 0)), (1, (2, 0, 1)), (0, (0, 3, 0))):
            self.steps_are_kept(house_of_machine(MOVER, state), machine_deeds(MOVER, state))

    def steps_are_kept(self, house, steps):
        """Each step is one of the moves, and as the told kinds tell."""
        groups, rules = told_kinds(house)
        stand = settled(house)
        for step in steps:
            row = row_at(stand, step[1])
            walker = row[step[2]] if step[0] == "in" else row[step[2]][2][step[3]] if step[0] == "out" else None
            if walker is not None:
                self.assertIs(rules[groups[plain.base(walker[1])]][0], True)
            if step[0] == "open":
                self.assertIs(rules[groups[plain.base(row[step[3]][1])]][1], True)
            stand = step_done(stand, step)


def pairs_within(row, around=()):
    """Tuples (base of a room, base of one that it is within, however deep)."""
    told = set()
    for part in row:
        if part[0] == "room":
            name = plain.base(part[1])
            told |= {(name, other) for other in around} | pairs_within(part[2], around + (name,))
    return told


if __name__ == "__main__":
    unittest.main()
