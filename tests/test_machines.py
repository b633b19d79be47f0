"""[12.1] to [12.3] a counting machine, its house, and the deeds that do its orders."""

import copy
import itertools
import unittest

from samples import drawn
from walkrooms.building import house_of_machine, machine_deeds
from walkrooms.houses import is_house
from walkrooms.machines import next_state
from walkrooms.reading import read
from walkrooms.sameness import same
from walkrooms.stands import settled
from walkrooms.steps import step_done, steps_of
from walkrooms.texts import shown
from walkrooms.walks import run

LETTERS = "abcdef"
STOP = ("stop",)
# Moves all of register 0 to register 1, counts them in register 2 too, and stops.
MOVER = (("down", 0, 1, 3), ("up", 1, 2), ("up", 2, 0), STOP)
# Each kind of order several times, each register, orders that go to themselves.
MIXED = (("up", 0, 1), ("down", 1, 0, 2), ("down", 2, 2, 3), ("up", 2, 4), ("down", 0, 4, 5), STOP)


def all_values(most):
    """All values of three registers that are at most so many together."""
    return [values for values in itertools.product(range(most + 1), repeat=3) if sum(values) <= most]


def drawn_machine(draw):
    """A machine of one to six orders."""
    many = draw.randrange(1, 7)
    orders = []
    for _ in range(many):
        word = draw.choice(("up", "down", "down", "stop"))
        register, go, other = draw.randrange(3), draw.randrange(many), draw.randrange(many)
        orders.append({"up": ("up", register, go), "down": ("down", register, go, other), "stop": STOP}[word])
    return tuple(orders)


def drawn_values(draw, most):
    """Values that are at most so many together."""
    return draw.choice(all_values(most))


def written(machine, state):
    """The house of a machine as the document writes it, put together word by word."""
    rows = []
    for number, order in enumerate(machine):
        if order[0] == "stop":
            continue
        A, R, G = LETTERS[number], LETTERS[order[1]], LETTERS[order[2]]
        if order[0] == "up":
            rows.append("!open lA.open rR.(xA).new cA (rR[<cA>] | cA[<more> | open ok.<xA>] | lG[])".replace("A", A).replace("R", R).replace("G", G))
        else:
            O = LETTERS[order[3]]
            for row in ("!open lA.open rR.(xA).open xA.(bA).kA[in bA]",
                        "!open zA.(ok[] | (wA).new dA (rR[<dA>] | dA[<zero> | open ok.<zero>] | lO[]))",
                        "!open mA.(ok[] | (yA).(rR[<yA>] | lG[]))"):
                rows.append(row.replace("A", A).replace("R", R).replace("G", G).replace("O", O))
    downs = [LETTERS[number] for number, order in enumerate(machine) if order[0] == "down"]
    for name, sign in (("zero", "z"), ("more", "m")):
        rows.append(name + "[" + " | ".join("!open k" + A + "." + sign + A + "[out " + name + "]" for A in downs) + "]")
    for R, value in zip("abc", state[1]):
        names = ["e" + R + x for x in "abcdefgh"[:value + 1]]
        text = " | ".join([names[0] + "[<zero> | open ok.<zero>]"] + [names[k] + "[<more> | open ok.<" + names[k - 1] + ">]" for k in range(1, value + 1)])
        rows.append("".join("new " + name + " " for name in names) + "(" + text + " | r" + R + "[<" + names[-1] + ">])")
    rows.append("l" + LETTERS[state[0]] + "[]")
    return " | ".join(rows)


class Machines(unittest.TestCase):
    """[12.1] the next state."""

    def told(self, machine, state, wanted):
        before = copy.deepcopy((machine, state))
        told = next_state(machine, state)
        self.assertEqual(told, wanted)
        self.assertEqual((machine, state), before)
        if told is not None:
            self.assertEqual((type(told), type(told[1])), (tuple, tuple))

    def test_up(self):
        for register, wanted in enumerate(((2, 2, 3), (1, 3, 3), (1, 2, 4))):
            for go in (0, 1, 2):
                self.told((("up", register, go), STOP, STOP), (0, (1, 2, 3)), (go, wanted))
        self.told((STOP, ("up", 0, 0)), (1, (0, 0, 0)), (0, (1, 0, 0)))
        self.told((("up", 2, 0),), (0, (0, 0, 6)), (0, (0, 0, 7)))

    def test_down(self):
        for register, wanted in enumerate(((0, 2, 3), (1, 1, 3), (1, 2, 2))):
            for go, other in ((0, 1), (1, 0), (2, 2)):
                self.told((("down", register, go, other), STOP, STOP), (0, (1, 2, 3)), (go, wanted))
        for register, values in enumerate(((0, 2, 3), (1, 0, 3), (1, 2, 0))):
            for go, other in ((0, 1), (1, 0), (2, 2)):
                self.told((("down", register, go, other), STOP, STOP), (0, values), (other, values))

    def test_stop(self):
        for values in ((0, 0, 0), (1, 2, 3)):
            self.told((STOP,), (0, values), None)
            self.told((("up", 0, 1), STOP), (1, values), None)

    def test_on_and_on(self):
        for many in range(4):
            state = (0, (many, 0, 0))
            steps = 0
            while next_state(MOVER, state) is not None:
                state = next_state(MOVER, state)
                steps += 1
            self.assertEqual((state, steps), ((3, (0, many, many)), 3 * many + 1))


class Building(unittest.TestCase):
    """[12.2] the house of a machine and a state."""

    def test_written_out(self):
        machine = (("up", 1, 2), STOP, ("down", 2, 0, 1))
        self.assertEqual(shown(house_of_machine(machine, (2, (0, 2, 1)))), (
            "!open la.open rb.(xa).new ca (rb[<ca>] | ca[<more> | open ok.<xa>] | lc[])"
            " | !open lc.open rc.(xc).open xc.(bc).kc[in bc]"
            " | !open zc.(ok[] | (wc).new dc (rc[<dc>] | dc[<zero> | open ok.<zero>] | lb[]))"
            " | !open mc.(ok[] | (yc).(rc[<yc>] | la[]))"
            " | zero[!open kc.zc[out zero]] | more[!open kc.mc[out more]]"
            " | new eaa (eaa[<zero> | open ok.<zero>] | ra[<eaa>])"
            " | new eba new ebb new ebc (eba[<zero> | open ok.<zero>] | ebb[<more> | open ok.<eba>] | ebc[<more> | open ok.<ebb>] | rb[<ebc>])"
            " | new eca new ecb (eca[<zero> | open ok.<zero>] | ecb[<more> | open ok.<eca>] | rc[<ecb>])"
            " | lc[]"))

    def test_stops_alone(self):
        self.assertEqual(shown(house_of_machine((STOP,), (0, (0, 0, 0)))), (
            "zero[] | more[] | new eaa (eaa[<zero> | open ok.<zero>] | ra[<eaa>])"
            " | new eba (eba[<zero> | open ok.<zero>] | rb[<eba>]) | new eca (eca[<zero> | open ok.<zero>] | rc[<eca>]) | la[]"))

    def test_each_machine_and_state(self):
        draw = drawn(141)
        machines = [MOVER, MIXED, (("down", 0, 0, 0),) * 6, (("up", 1, 5),) * 6] + [drawn_machine(draw) for _ in range(60)]
        for machine in machines:
            for at in range(len(machine)):
                # Up to seven together, which a told next state may have.
                for values in ((0, 0, 0), (6, 0, 0), (0, 7, 0), (0, 0, 7), (3, 2, 2), drawn_values(draw, 7)):
                    house = house_of_machine(machine, (at, values))
                    self.assertTrue(is_house(house))
                    self.assertEqual(shown(house), written(machine, (at, values)))
                    self.assertEqual(house, read(written(machine, (at, values))))


class Deeds(unittest.TestCase):
    """[12.3] the deeds that do an order."""

    def done_right(self, machine, state):
        before = copy.deepcopy((machine, state))
        told = machine_deeds(machine, state)
        self.assertIs(type(told), list)
        self.assertEqual((machine, state), before)
        wanted = next_state(machine, state)
        if wanted is None:
            self.assertEqual(told, [])
            return
        self.assertTrue(told)
        stand = settled(house_of_machine(machine, state))
        for step in told:
            self.assertEqual([one for one in steps_of(stand) if one[0] != "again" and one != step], [], (machine, state))
            stand = step_done(stand, step)
        self.assertTrue(same(stand, settled(house_of_machine(machine, wanted))), (machine, state))
        self.assertTrue(same(run(settled(house_of_machine(machine, state)), told), stand))

    def test_each_order_from_several_states(self):
        for machine in (MOVER, MIXED):
            for at in range(len(machine)):
                for values in all_values(2) + [(6, 0, 0), (0, 6, 0), (0, 0, 6), (2, 2, 2), (0, 3, 3), (1, 0, 5)]:
                    self.done_right(machine, (at, values))

    def test_drawn_machines(self):
        draw = drawn(142)
        for _ in range(60):
            machine = drawn_machine(draw)
            for at in range(len(machine)):
                self.done_right(machine, (at, drawn_values(draw, 6)))

    def test_on_and_on(self):
        for machine, state in ((MOVER, (0, (2, 1, 0))), (MIXED, (0, (0, 2, 1)))):
            stand = settled(house_of_machine(machine, state))
            many = 0
            while next_state(machine, state) is not None and sum(next_state(machine, state)[1]) <= 6:
                # Told for the house of the state itself, which the stand so far is the same as.
                self.assertTrue(same(stand, settled(house_of_machine(machine, state))))
                stand = run(settled(house_of_machine(machine, state)), machine_deeds(machine, state))
                state = next_state(machine, state)
                many += 1
            self.assertGreater(many, 5)

    def test_the_house_itself_goes_on(self):
        # Without the told deeds: whatever is due but agains is done, and agains are done where an l, k, z or m room stands to be opened.
        stand = settled(house_of_machine(MOVER, (0, (1, 0, 0))))
        for _ in range(60):
            steps = steps_of(stand)
            due = [step for step in steps if step[0] != "again"] or [step for step in steps if opens_there(stand, step)]
            self.assertLessEqual(len(due), 1)
            if not due:
                break
            stand = step_done(stand, due[0])
        self.assertTrue(same(stand, settled(house_of_machine(MOVER, (3, (0, 1, 1))))))

    def test_told_alike_and_the_askers_own(self):
        first = machine_deeds(MOVER, (0, (1, 0, 0)))
        wanted = list(first)
        first.clear()
        machine_deeds(MIXED, (2, (1, 1, 1)))
        self.assertEqual(machine_deeds(MOVER, (0, (1, 0, 0))), wanted)


def opens_there(stand, again):
    """Whether what is done again begins with an open of a room that stands in that row."""
    row = stand[1]
    for k in again[1]:
        row = row[k][2]
    return any(part[:2] == ("room", row[again[2]][1][0][1]) for part in row)


if __name__ == "__main__":
    unittest.main()
