"""exchange: two stacks change their needles, and each loop of one crosses each loop of the other (point 25)."""

import random
import unittest
from itertools import product

from heldloops.moves import exchange
from moving import MovingTest, stacks_of


class ExchangeTest(MovingTest):

    def check(self, i, over, reach, sizes, width):
        stacks = stacks_of(sizes)
        expected = dict(stacks)
        left, right = expected.pop(i, None), expected.pop(i + 2, None)
        expected.update({needle: stack for needle, stack in ((i, right), (i + 2, left)) if stack is not None})
        crossed = [(min(a, b), max(a, b), a if over == "left" else b)
                   for a, b in product(left[0] if left else (), right[0] if right else ())]
        self.check_move(exchange(i, over, reach), stacks, expected, (i - 1, i + 3), width, reach, crossed)

    def test_single_loops(self):
        for over in ("left", "right"):
            for reach in (1, 2, 3, 4, 5, 17, 10000):
                for i in (1, 2, 6):
                    self.check(i, over, reach, {i: 1, i + 2: 1}, i + 4)

    def test_stacks(self):
        for over in ("left", "right"):
            for reach in (1, 2, 3, 4, 20):
                for left, right in product((1, 2, 3), (1, 2, 4)):
                    self.check(3, over, reach, {3: left, 5: right}, 7)

    def test_loops_beside(self):
        beside = {needle: 1 + needle % 2 for needle in (0, 1, 2, 8, 9, 10)}
        for over in ("left", "right"):
            for reach in (1, 2, 3, 4, 30):
                for left, right in ((1, 1), (2, 1), (1, 3)):
                    self.check(4, over, reach, {**beside, 4: left, 6: right}, 11)

    def test_one_needle_that_holds_nothing(self):
        for over in ("left", "right"):
            for reach in (1, 3):
                self.check(1, over, reach, {1: 2}, 5)
                self.check(1, over, reach, {3: 2}, 5)

    def test_drawn(self):
        source = random.Random(33)
        for _ in range(120):
            i, width = source.randint(1, 6), source.randint(10, 13)
            sizes = {needle: source.randint(0, 2) for needle in range(width) if not i - 1 <= needle <= i + 3}
            sizes = {**sizes, i: source.randint(1, 3), i + 2: source.randint(1, 3)}
            self.check(i, source.choice(["left", "right"]), source.choice([1, 2, 3, 4, 9]), sizes, width)

    def test_no_error_beyond_the_least_reach(self):
        for over in ("left", "right"):
            self.assertIs(type(exchange(1, over, 0)), list)


if __name__ == "__main__":
    unittest.main()
