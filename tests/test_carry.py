"""carry: a stack goes to another needle over free ones (point 25)."""

import random
import unittest

from heldloops.moves import carry
from moving import MovingTest, stacks_of


class CarryTest(MovingTest):

    def check(self, i, j, reach, sizes, width):
        stacks = stacks_of(sizes)
        expected = dict(stacks)
        depth, place = expected.pop(i)
        if j in expected:
            held_depth, held_place = expected[j]
            depth, place = held_depth + depth, place + held_place if i < j else held_place + place
        expected[j] = (depth, place)
        self.check_move(carry(i, j, reach), stacks, expected, (min(i, j), max(i, j)), width, reach)

    def test_nowhere(self):
        for reach in (1, 2, 5, 10000):
            for i in (0, 1, 7):
                self.assertEqual(carry(i, i, reach), [])

    def test_the_two_needles_alone(self):
        for way in range(1, 20):
            for reach in list(range(1, 13)) + [30, 10000]:
                self.check(0, way, reach, {0: 1}, way + 1)
                self.check(way, 0, reach, {way: 1}, way + 1)

    def test_stacks_to_stacks(self):
        for way in range(1, 20):
            for reach in (1, 2, 3, 5, 9, 10, 12, 400):
                many, held = 1 + way % 4, way % 3 + reach % 2
                self.check(2, 2 + way, reach, {2: many, 2 + way: held}, way + 3)
                self.check(way, 0, reach, {0: held, way: many}, way + 1)

    def test_loops_on_all_needles_beside(self):
        for i, j in ((3, 4), (4, 3), (2, 9), (9, 2), (1, 3), (8, 5)):
            beside = {needle: 1 for needle in range(12) if not min(i, j) <= needle <= max(i, j)}
            for reach in (1, 2, 3, 4, 12, 100):
                for held in (0, 1, 3):
                    self.check(i, j, reach, {**beside, i: 2, j: held}, 12)

    def test_drawn_moves(self):
        source = random.Random(31)
        for _ in range(150):
            width = source.randint(2, 24)
            i, j = source.sample(range(width), 2)
            sizes = {needle: source.randint(0, 2) for needle in range(width) if not min(i, j) < needle < max(i, j)}
            self.check(i, j, source.choice([1, 2, 3, 5, 7, 11, 50]), {**sizes, i: source.randint(1, 3)}, width)

    def test_far(self):
        code = carry(3, 9999, 1)
        self.assertEqual(sum(instruction[0] == "rack" for instruction in code), 9996)
        self.assertEqual(carry(0, 9999, 10000)[-1][:2], ("xfer", "back"))
        self.assertEqual(len(carry(0, 9999, 10000)), 4)

    def test_no_error_beyond_the_least_reach(self):
        for reach in (0, -1):
            self.assertEqual(carry(2, 2, reach), [])
            for i, j in ((2, 9), (9, 2)):
                carry(i, j, reach)


if __name__ == "__main__":
    unittest.main()
