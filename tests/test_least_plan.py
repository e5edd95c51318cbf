"""least_plan: a plan for spacing with the fewest holds (point 26)."""

import random
import unittest
from itertools import combinations, product

from heldloops.planning import least_plan
from test_space import drawn_needles
from timed import TimedTest


def may_be_done(old, new, gone, hold):
    """Whether the stacks of a hold may go at once, when those of the indexes that are gone are on their new needles."""
    others = {new[k] if k in gone else old[k] for k in range(len(old)) if k not in hold}
    return not any(needle in others for k in hold for needle in range(min(old[k], new[k]), max(old[k], new[k]) + 1))


def fewest(old, new):
    """The number of holds of a least plan, by a search over all plans."""
    ways = {k: new[k] - old[k] for k in range(len(old)) if new[k] != old[k]}
    reached, count = {frozenset()}, 0
    while frozenset(ways) not in reached:
        farther = set()
        for gone in reached:
            for way in set(ways.values()):
                waiting = [k for k in ways if ways[k] == way and k not in gone]
                for many in range(1, len(waiting) + 1):
                    farther |= {gone | set(hold) for hold in combinations(waiting, many)
                                if may_be_done(old, new, gone, hold)}
        reached, count = farther, count + 1
    return count


class LeastPlanTest(TimedTest):

    def check_plan(self, old, new, reach):
        """Whether each sentence of point 26 holds."""
        plan = least_plan(old, new, reach)
        if any(abs(there - here) > 2 * reach for here, there in zip(old, new)):
            self.assertIsNone(plan)
            return None
        gone = set()
        for way, indexes in plan:
            self.assertIs(type(indexes), list)
            self.assertEqual(indexes, sorted(set(indexes) - gone))
            self.assertEqual({new[k] - old[k] for k in indexes}, {way})
            self.assertTrue(may_be_done(old, new, gone, indexes), (old, new, plan))
            gone |= set(indexes)
        self.assertEqual(gone, {k for k in range(len(old)) if old[k] != new[k]})
        return plan

    def check_least(self, old, new, reach):
        plan = self.check_plan(old, new, reach)
        if plan is not None:
            self.assertEqual(len(plan), fewest(old, new), (old, new, plan))

    def test_nothing_to_do(self):
        for reach in (1, 2, 10000):
            self.assertEqual(least_plan([], [], reach), [])
            self.assertEqual(least_plan([7], [7], reach), [])
            self.assertEqual(least_plan([0, 3, 4], [0, 3, 4], reach), [])

    def test_kinds_of_values(self):
        self.assertEqual(least_plan([0, 2, 4], [1, 3, 4], 1), [(1, [0, 1])])
        self.assertIs(type(least_plan([0, 2, 4], [1, 3, 4], 1)[0]), tuple)

    def test_ways_that_are_too_long(self):
        for reach in (1, 2, 3, 50):
            for way in (2 * reach, -2 * reach):
                self.assertEqual(least_plan([200], [200 + way], reach), [(way, [0])])
            for way in (2 * reach + 1, -2 * reach - 1):
                self.assertIsNone(least_plan([200], [200 + way], reach))
                self.assertIsNone(least_plan([0, 200, 500], [1, 200 + way, 499], reach))

    def test_stacks_that_wait_for_others(self):
        self.assertEqual(least_plan([0, 1], [1, 3], 2), [(2, [1]), (1, [0])])
        self.assertEqual(least_plan([1, 3], [0, 1], 2), [(-1, [0]), (-2, [1])])
        self.assertEqual(least_plan([0, 1, 2], [1, 2, 3], 1), [(1, [0, 1, 2])])

    def test_pairs_whose_ways_stand_in_opposite_orders(self):
        old, new = [0, 2, 10, 11], [2, 3, 11, 13]
        self.assertEqual(len(self.check_plan(old, new, 1)), 3)
        self.assertEqual(len(self.check_plan(old[:2], new[:2], 1)), 2)
        self.assertEqual(len(self.check_plan(old + [20], new + [21], 1)), 3)

    def test_the_same_way_in_several_places_is_one_hold(self):
        self.assertEqual(least_plan([0, 10, 20], [3, 13, 23], 2), [(3, [0, 1, 2])])
        self.assertEqual(sorted(least_plan([5, 10, 20, 30], [7, 8, 22, 28], 2)), [(-2, [1, 3]), (2, [0, 2])])

    def test_all_spacings_of_up_to_three_stacks(self):
        for many in (1, 2, 3):
            for old, new in product(combinations(range(6), many), repeat=2):
                for reach in (1, 2, 3):
                    self.check_least(list(old), list(new), reach)

    def test_drawn_lists_of_up_to_six_needles(self):
        source = random.Random(41)
        for _ in range(1500):
            many = source.randint(2, 6)
            old, new = drawn_needles(source, many), drawn_needles(source, many)
            self.check_least(old, new, source.choice([2, 3, 9, 9]))

    def test_drawn_lists_that_begin_anew(self):
        # Groups that lie apart, so that equal ways stand in several orders.
        source = random.Random(42)
        for _ in range(600):
            old, new = [], []
            for group in range(source.randint(2, 3)):
                for k, way in enumerate(sorted(source.choice([1, 2, 3]) for _ in range(2))):
                    old.append(20 * group + source.randint(0, 1) + 2 * k)
                    new.append(20 * group + 3 * k + way)
            if sorted(set(new)) == new:
                self.check_least(old, new, 4)

    def test_twelve_needles_of_which_few_have_a_way(self):
        source = random.Random(43)
        for _ in range(250):
            old = drawn_needles(source, 12)
            new = list(old)
            for k in sorted(source.sample(range(12), source.randint(1, 7)), reverse=source.random() < 0.5):
                least = new[k - 1] + 1 if k else 0
                greatest = new[k + 1] - 1 if k < 11 else old[k] + 4
                new[k] = source.randint(least, greatest)
            self.check_least(old, new, source.choice([1, 2, 6]))

    def test_twelve_needles_that_all_have_a_way(self):
        source = random.Random(44)
        for _ in range(300):
            old, new = drawn_needles(source, 12), drawn_needles(source, 12)
            shift = source.choice([0, 25, -min(new)])
            self.check_plan(old, [needle + shift for needle in new], 100)

    def test_hard_lists_of_twelve(self):
        # Groups whose ways stand in unlike orders; all ways are needed in many of them.
        source = random.Random(45)
        for size in (1, 2, 3, 4, 6):
            for _ in range(25):
                old, new = [], []
                for group in range(12 // size):
                    steps = sorted(source.sample(range(1, 40), size))
                    old += [1000 * group + k for k in range(size)]
                    new += [1000 * group + k + step for k, step in enumerate(steps)]
                self.check_plan(old, new, 30)
        waves = [(1, 2), (2, 1), (1, 3), (3, 1), (2, 3), (3, 2)]
        old = [needle for group in range(6) for needle in (10 * group, 10 * group + 1)]
        new = [10 * group + at for group in range(6) for at in (waves[group][0], 1 + waves[group][0] + waves[group][1])]
        self.check_plan(old, new, 10)

    def test_somewhat_longer_lists(self):
        source = random.Random(46)
        for many in (13, 14, 16, 20):
            self.check_plan(drawn_needles(source, many), drawn_needles(source, many), 100)
            apart = list(range(0, 100 * many, 100))
            plan = self.check_plan(apart, [needle + k + 1 for k, needle in enumerate(apart)], 100)
            self.assertEqual(len(plan), many)


if __name__ == "__main__":
    unittest.main()
