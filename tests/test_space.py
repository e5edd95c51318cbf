"""space: several stacks go to as many needles, and stay as they are (point 25)."""

import random
import unittest
from itertools import combinations

from heldloops.moves import space
from moving import MovingTest, stacks_of


class SpaceTest(MovingTest):

    def check(self, old, new, reach, width, sizes=None, beside=None):
        """With one loop on each needle, if no sizes are told, and the loops beside."""
        stacks = stacks_of({**dict(zip(old, sizes or [1] * len(old))), **(beside or {})})
        expected = {new[old.index(needle)] if needle in old else needle: stack for needle, stack in stacks.items()}
        bounds = (min(old + new, default=0), max(old + new, default=0))
        self.check_move(space(old, new, reach), stacks, expected, bounds, width, reach)

    def test_nothing_to_do(self):
        for reach in (1, 4, 10000):
            self.assertEqual(space([], [], reach), [])
            self.assertEqual(space([4], [4], reach), [])
            self.assertEqual(space([0, 1, 5], [0, 1, 5], reach), [])

    def test_one_stack(self):
        for here in range(8):
            for there in range(8):
                for reach in (1, 2, 3, 10):
                    self.check([here], [there], reach, max(here, there) + 1, [1 + here % 3])

    def test_all_spacings_of_a_small_bed(self):
        for many in (2, 3):
            for old in combinations(range(5), many):
                for new in combinations(range(5), many):
                    for reach in (1, 3):
                        self.check(list(old), list(new), reach, max(old + new) + 1)

    def test_rows_that_go_together(self):
        row = list(range(0, 32, 2))
        for way in (1, 2, 3, 7):
            for reach in (1, 2, 4):
                self.check(row, [needle + way for needle in row], reach, 31 + way)
                self.check([needle + way for needle in row], row, reach, 31 + way)

    def test_rows_that_open_and_close(self):
        close, wide = list(range(10, 20)), list(range(1, 29, 3))
        for reach in (1, 2, 4, 9, 60):
            self.check(close, wide, reach, 29, [1, 2, 1, 3, 1, 1, 2, 1, 1, 4])
            self.check(wide, close, reach, 29)

    def test_new_needles_that_were_old_ones(self):
        self.check([0, 1, 2, 3], [1, 2, 3, 4], 1, 5, [1, 2, 3, 1])
        self.check([1, 2, 3, 4], [0, 1, 2, 3], 2, 5)
        self.check([2, 5, 6, 9], [0, 2, 9, 10], 2, 11)
        self.check([0, 4, 5, 8, 12], [3, 4, 5, 6, 8], 1, 13)

    def test_loops_beside(self):
        beside = {needle: 1 for needle in (0, 1, 2, 12, 13)}
        for reach in (1, 2, 3, 30):
            self.check([3, 6, 8], [5, 7, 11], reach, 14, [1, 3, 2], beside)
            self.check([5, 7, 11], [3, 4, 5], reach, 14, [2, 1, 2], beside)
            self.check([3, 11], [6, 7], reach, 14, [2, 2], beside)

    def test_drawn_spacings(self):
        source = random.Random(32)
        for _ in range(150):
            many = source.randint(0, 16)
            old, new = drawn_needles(source, many), drawn_needles(source, many)
            first, last = min(old + new, default=0), max(old + new, default=0)
            beside = {needle: 1 for needle in (first - 1, last + 1) if needle >= 0 and source.random() < 0.7}
            sizes = [source.choice([1, 1, 1, 2, 3]) for _ in range(many)]
            self.check(old, new, source.choice([1, 2, 3, 4, 9, 80]), last + 2, sizes, beside)

    def test_wide_rows(self):
        row = list(range(1, 3001, 2))
        self.assertEqual(len(space(row, [needle + 2 for needle in row], 1)), 2 * len(row) + 2)
        self.assertEqual(space([0, 3], [2, 3], 0)[-1][0], "xfer")


def drawn_needles(source, many):
    """Ascending needles with gaps of 0 to 3."""
    needles, at = [], source.randint(1, 4)
    for _ in range(many):
        needles.append(at)
        at += source.randint(1, 4)
    return needles


if __name__ == "__main__":
    unittest.main()
