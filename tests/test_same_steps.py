"""[5.3] stands that are the same have the same steps up to rearrangement."""

import unittest

from samples import Drawer, drawn, mixed, recalled
from walkrooms.sameness import renaming, same
from walkrooms.stands import privates_in, settled
from walkrooms.steps import step_done, steps_of


def words(stand):
    """How many steps of each word a stand has."""
    told = {}
    for step in steps_of(stand):
        told[step[0]] = told.get(step[0], 0) + 1
    return told


def disguised(stand, draw):
    """The same stand, rearranged, with its private names called otherwise and another next."""
    names = privates_in(stand[1])
    others = [f"z.{k + 1}" for k in range(len(names))]
    draw.shuffle(others)
    return (len(names) + 1, mixed(recalled(stand[1], dict(zip(names, others))), draw))


class SameSteps(unittest.TestCase):
    def pair_steps(self, one, other):
        """Pairs each step of the one with one of the other, each once."""
        self.assertEqual(words(one), words(other))
        left = [(step[0], step_done(other, step)) for step in steps_of(other)]
        for step in steps_of(one):
            after = step_done(one, step)
            found = [k for k, (word, stand) in enumerate(left) if word == step[0] and same(after, stand)]
            self.assertTrue(found, (one, other, step))
            del left[found[0]]
        self.assertEqual(left, [])

    def test_drawn_stands_and_the_same_rearranged(self):
        draw = drawn(14)
        drawer = Drawer(draw, free=("a", "b"))
        looked = 0
        while looked < 120:
            stand = settled(drawer.house(draw.randrange(2, 5)))
            for _ in range(draw.randrange(4)):
                if 0 < len(steps_of(stand)) <= 12:
                    stand = step_done(stand, draw.choice(steps_of(stand)))
            if not 1 < len(steps_of(stand)) <= 12 or len(privates_in(stand[1])) > 8:
                continue
            other = disguised(stand, draw)
            self.assertIsNotNone(renaming(stand, other))
            self.pair_steps(stand, other)
            looked += 1

    def test_runs_side_by_side(self):
        draw = drawn(15)
        drawer = Drawer(draw, free=("a", "b"))
        for _ in range(150):
            one = settled(drawer.house(4))
            other = disguised(one, draw)
            for _ in range(6):
                steps = steps_of(one)
                if not 0 < len(steps) <= 15 or len(privates_in(one[1])) > 8:
                    break
                step = draw.choice(steps)
                one = step_done(one, step)
                after = [step_done(other, there) for there in steps_of(other) if there[0] == step[0]]
                after = [stand for stand in after if same(one, stand)]
                self.assertTrue(after)
                other = disguised(draw.choice(after), draw)


if __name__ == "__main__":
    unittest.main()
