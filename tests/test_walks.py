"""[6.1], [6.2] runs, and walks that can be undone."""

import unittest

import plain
from samples import any_things, drawn, drawn_houses, others
from walkrooms.errors import NoHouse, NoStep, Nothing
from walkrooms.houses import is_house
from walkrooms.reading import read
from walkrooms.stands import settled
from walkrooms.steps import step_done, steps_of
from walkrooms.texts import shown
from walkrooms.walks import Walk, run

HOUSE = read("a[in b.out b.new x <x>] | b[] | open a | !new k <k> | (y).y[]")
STEPS = [("in", (), 0, 0, 1), ("again", (), 2), ("out", (), 0, 0, 0), ("open", (), 1, 5), ("letter", (), 3, 2)]


def run_of(house, draw, most):
    """A drawn run of a house, and all stands on the way."""
    stands = [settled(house)]
    steps = []
    while len(steps) < most and plain.steps_tried(stands[-1]):
        steps.append(draw.choice(plain.steps_tried(stands[-1])))
        stands.append(plain.behind(stands[-1], steps[-1]))
    return steps, stands


def wrong_steps(stand):
    """Things of every kind that are no step of a stand."""
    told = [thing for thing in any_things()]
    for step in steps_of(stand):
        told += [list(step), step[:-1], step + (0,), (step[0], list(step[1]), *step[2:]), step[:2] + (True,) * (len(step) - 2), step[:2] + (-1,) + step[3:],
                 (step[0].upper(), *step[1:])]
    return told


class Runs(unittest.TestCase):
    def test_none_one_and_many(self):
        stand = settled(HOUSE)
        self.assertEqual(run(stand, []), stand)
        self.assertEqual(run(stand, STEPS[:1]), step_done(stand, STEPS[0]))
        told = run(stand, STEPS)
        self.assertEqual((told[0], shown(told[1])), (3, "b[] | !new k <k> | <x.2> | k.1[]"))
        self.assertIs(type(told), tuple)

    def test_drawn_runs(self):
        draw = drawn(21)
        for house in drawn_houses(21, 250, least_deep=3):
            steps, stands = run_of(house, draw, 8)
            for k in range(len(steps) + 1):
                self.assertEqual(run(stands[0], steps[:k]), stands[k])
                self.assertEqual(run(stands[k], steps[k:]), stands[-1])

    def test_a_long_run(self):
        stand = settled(read("a[in b.out b.in b] | b[] | !0"))
        self.assertEqual(run(stand, [("again", (), 2)] * 300), stand)
        stand = settled(read("!new k <k>"))
        self.assertEqual(run(stand, [("again", (), 0)] * 300)[0], 301)

    def test_the_first_that_is_none(self):
        stand = settled(HOUSE)
        for at in range(len(STEPS) + 1):
            here = run(stand, STEPS[:at])
            for thing in wrong_steps(here) + [STEPS[0]] * (at > 0):
                for more in ([], STEPS[at:], [None], [thing, thing]):
                    steps = STEPS[:at] + [thing] + more
                    with self.assertRaises(NoStep, msg=repr(thing)) as caught:
                        run(stand, steps)
                    self.assertEqual(caught.exception.at, at)

    def test_a_step_that_was_there_once(self):
        stand = settled(read("a[in b] | b[]"))
        step = ("in", (), 0, 0, 1)
        with self.assertRaises(NoStep) as caught:
            run(stand, [step, step])
        self.assertEqual(caught.exception.at, 1)
        stand = settled(read("!0 | <a> | (x)"))
        again, letter = ("again", (), 0), ("letter", (), 1, 2)
        with self.assertRaises(NoStep) as caught:
            run(stand, [again] * 40 + [letter] + [again] * 5 + [letter, again, None])
        self.assertEqual(caught.exception.at, 46)

    def test_a_truth_for_a_place_and_a_list_for_a_path(self):
        stand = settled(read("!0 | !0"))
        for thing in (("again", (), True), ("again", (), False), ("again", [], 0), ["again", (), 0]):
            with self.assertRaises(NoStep) as caught:
                run(stand, [("again", (), 0), ("again", (), 1), thing])
            self.assertEqual(caught.exception.at, 2)

    def test_what_is_handed_in_stays(self):
        stand = settled(HOUSE)
        before = repr(stand)
        steps = list(STEPS)
        run(stand, steps)
        self.assertEqual(steps, STEPS)
        wrong = STEPS + [[1], {"a": []}]
        with self.assertRaises(NoStep):
            run(stand, wrong)
        self.assertEqual(wrong, STEPS + [[1], {"a": []}])
        self.assertEqual(repr(stand), before)
        self.assertEqual(run(stand, STEPS), run(stand, STEPS))


class Walks(unittest.TestCase):
    def looks_like(self, walk, steps, stands):
        """Asks a walk for all that it tells."""
        self.assertEqual(walk.stand(), stands[-1])
        self.assertEqual(walk.log(), steps)
        self.assertEqual(walk.many(), len(steps))
        self.assertIs(type(walk.many()), int)
        self.assertIs(type(walk.log()), list)
        for n, stand in enumerate(stands):
            self.assertEqual(walk.behind(n), stand)
        for n in (len(stands), len(stands) + 1, 10 ** 30, -1, -2, -len(stands), True, False, None, "0", 0.0, 1.0, (), [0], b"0", (0,)):
            with self.assertRaises(Nothing, msg=repr(n)):
                walk.behind(n)

    def test_do_and_undo_one_behind_another(self):
        walk = Walk(HOUSE)
        stands = [settled(HOUSE)]
        self.looks_like(walk, [], stands)
        for step in STEPS:
            self.assertIsNone(walk.do(step))
            stands.append(plain.behind(stands[-1], step))
            self.looks_like(walk, STEPS[:len(stands) - 1], stands)
        for k in reversed(range(len(STEPS))):
            self.assertIsNone(walk.undo())
            self.looks_like(walk, STEPS[:k], stands[:k + 1])
        with self.assertRaises(Nothing):
            walk.undo()
        self.looks_like(walk, [], stands[:1])

    def test_drawn_walks(self):
        draw = drawn(22)
        for house in drawn_houses(22, 150, least_deep=3):
            walk = Walk(house)
            steps, stands = [], [settled(house)]
            for _ in range(draw.randrange(14)):
                choice = steps_of(walk.stand())
                if choice and draw.randrange(3):
                    step = draw.choice(choice)
                    walk.do(step)
                    steps.append(step)
                    stands.append(plain.behind(stands[-1], step))
                elif steps:
                    walk.undo()
                    steps.pop()
                    stands.pop()
                else:
                    with self.assertRaises(Nothing):
                        walk.undo()
            self.looks_like(walk, steps, stands)

    def test_an_undoing_is_exact_next_too(self):
        walk = Walk(read("!new k <k>"))
        before = walk.stand()
        walk.do(("again", (), 0))
        self.assertEqual(walk.stand()[0], 2)
        walk.undo()
        self.assertEqual(walk.stand(), before)
        self.assertEqual(walk.stand()[0], 1)
        walk.do(("again", (), 0))
        self.assertEqual(shown(walk.stand()[1]), "!new k <k> | <k.1>")

    def test_what_is_no_step_changes_nothing(self):
        walk = Walk(HOUSE)
        stands = [settled(HOUSE)]
        for k, step in enumerate(STEPS + [None]):
            for thing in wrong_steps(walk.stand()):
                with self.assertRaises(NoStep, msg=repr(thing)) as caught:
                    walk.do(thing)
                self.assertEqual(caught.exception.at, 0)
            self.looks_like(walk, STEPS[:k], stands)
            if step is not None:
                walk.do(step)
                stands.append(plain.behind(stands[-1], step))

    def test_nothing_to_undo(self):
        walk = Walk(())
        for _ in range(3):
            with self.assertRaises(Nothing):
                walk.undo()
        self.looks_like(walk, [], [(1, ())])

    def test_behind_of_anything(self):
        walk = Walk(HOUSE)
        walk.do(STEPS[0])
        for thing in any_things():
            if isinstance(thing, int) and not isinstance(thing, bool) and thing in (0, 1):
                continue
            with self.assertRaises(Nothing, msg=repr(thing)):
                walk.behind(thing)
        self.looks_like(walk, STEPS[:1], [settled(HOUSE), plain.behind(settled(HOUSE), STEPS[0])])

    def test_walks_of_no_houses(self):
        for thing in any_things() + others() + [settled(HOUSE), list(HOUSE), shown(HOUSE), (("say", "a.1"),)]:
            if not is_house(thing):
                with self.assertRaises(NoHouse, msg=repr(thing)):
                    Walk(thing)

    def test_a_told_log_that_is_changed_changes_nothing(self):
        walk = Walk(HOUSE)
        walk.log().append(STEPS[0])
        self.assertEqual((walk.log(), walk.many()), ([], 0))
        walk.do(STEPS[0])
        first = walk.log()
        first.clear()
        self.assertEqual(walk.log(), STEPS[:1])
        second = walk.log()
        walk.do(STEPS[1])
        self.assertEqual(second, STEPS[:1])
        walk.undo()
        walk.undo()
        self.assertEqual(second, STEPS[:1])

    def test_two_walks_know_nothing_of_each_other(self):
        one, other = Walk(HOUSE), Walk(HOUSE)
        one.do(STEPS[0])
        self.looks_like(other, [], [settled(HOUSE)])
        other.do(("again", (), 3))
        self.assertEqual(one.log(), STEPS[:1])
        one.undo()
        self.assertEqual(other.many(), 1)
        self.assertEqual(Walk(HOUSE).many(), 0)


if __name__ == "__main__":
    unittest.main()
