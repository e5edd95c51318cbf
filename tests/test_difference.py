"""difference: the first difference of two fabrics (point 32)."""

import copy
import unittest

from heldloops.charts import fabric_of
from heldloops.fabrics import difference
from samples import EXAMPLE, EXAMPLE_FABRIC, random_charts


def a(number):
    return ("a", number)


def tuck(name):
    return (name, "tuck", [], [])


def of_loops(*loops):
    return (list(loops), [], [], [])


def of_crossings(*crossings):
    return ([], list(crossings), [], [])


def of_resting(*columns):
    return ([], [], list(columns), [])


def of_dropped(*names):
    return ([], [], [], list(names))


class DifferenceTest(unittest.TestCase):

    def check(self, fabric, other, expected):
        self.assertEqual(difference(fabric, other), expected)
        self.assertEqual(difference(other, fabric), expected)
        self.assertIs(type(difference(other, fabric)), type(expected))

    def test_equal_fabrics(self):
        self.check(EXAMPLE_FABRIC, fabric_of(EXAMPLE), None)
        self.check(([], [], [], []), ([], [], [], []), None)
        for chart in random_charts(10, 100):
            self.check(fabric_of(chart), copy.deepcopy(fabric_of(chart)), None)

    def test_loop_of_only_one(self):
        self.check(of_loops(tuck(a(0))), of_loops(), ("loops", a(0)))
        self.check(of_loops(tuck(a(0)), tuck(a(1))), of_loops(tuck(a(0))), ("loops", a(1)))
        self.check(of_loops(tuck(a(0)), tuck(a(1))), of_loops(tuck(a(1))), ("loops", a(0)))

    def test_loops_that_differ(self):
        loop = (a(2), "knit", [a(0), a(1)], [a(0), a(1)])
        for other in ((a(2), "purl", [a(0), a(1)], [a(0), a(1)]),
                      (a(2), "knit", [a(1), a(0)], [a(0), a(1)]),
                      (a(2), "knit", [a(0), a(1)], [a(1), a(0)]),
                      (a(2), "knit", [a(0)], [a(0)]),
                      (a(2), "tuck", [], [])):
            self.check(of_loops(tuck(a(0)), loop, tuck(a(3))), of_loops(tuck(a(0)), other), ("loops", a(2)))

    def test_least_name_counts(self):
        self.check(of_loops(tuck(a(9)), tuck(a(10))), of_loops(), ("loops", a(9)))
        self.check(of_loops(tuck(("ab", 0))), of_loops(tuck(("b", 0))), ("loops", ("ab", 0)))
        self.check(of_loops(tuck(("b", 0))), of_loops(tuck(("a", 5))), ("loops", ("a", 5)))
        one = of_loops(tuck(a(0)), (a(1), "knit", [a(0)], [a(0)]), tuck(a(2)))
        self.check(one, of_loops(tuck(a(0)), (a(1), "purl", [a(0)], [a(0)])), ("loops", a(1)))
        self.check(one, of_loops((a(1), "purl", [a(0)], [a(0)]), tuck(a(2))), ("loops", a(0)))

    def test_crossing_of_only_one(self):
        crossing = (a(0), a(1), [a(0)])
        self.check(of_crossings(crossing), of_crossings(), ("crossings", a(0), a(1)))
        other = (a(0), ("b", 0), [a(0)])
        self.check(of_crossings(crossing, other), of_crossings(crossing), ("crossings", a(0), ("b", 0)))

    def test_overs_that_differ(self):
        crossing = (a(0), a(1), [a(0)])
        for overs in ([a(1)], [a(0), a(0)], [a(0), a(1)], [a(1), a(0)]):
            self.check(of_crossings(crossing), of_crossings((a(0), a(1), overs)), ("crossings", a(0), a(1)))

    def test_overs_in_another_order(self):
        one = of_crossings((a(0), a(1), [a(0), a(1)]))
        self.check(one, of_crossings((a(0), a(1), [a(1), a(0)])), ("crossings", a(0), a(1)))

    def test_least_pair_counts(self):
        one = of_crossings((a(0), a(1), [a(0)]), (a(1), a(9), [a(1)]), (a(1), a(10), [a(1)]))
        self.check(one, of_crossings((a(0), a(1), [a(0)])), ("crossings", a(1), a(9)))
        self.check(one, of_crossings((a(0), a(2), [a(0)])), ("crossings", a(0), a(1)))
        other = of_crossings((a(0), a(1), [a(0)]), (a(1), a(9), [a(9)]), (a(1), a(10), [a(1)]))
        self.check(one, other, ("crossings", a(1), a(9)))

    def test_column_of_only_one(self):
        self.check(of_resting([a(0)]), of_resting(), ("resting", 0))
        self.check(of_resting([a(0)], [a(1)], [a(2)]), of_resting([a(0)]), ("resting", 1))

    def test_columns_that_differ(self):
        one = of_resting([a(0)], [a(1), a(2)], [a(3)])
        self.check(one, of_resting([a(0)], [a(2), a(1)], [a(3)]), ("resting", 1))
        self.check(one, of_resting([a(0)], [a(1)], [a(3)]), ("resting", 1))
        self.check(one, of_resting([a(0)], [a(1), a(2)], [a(4)]), ("resting", 2))

    def test_least_index_counts(self):
        self.check(of_resting([a(1)], [a(0)]), of_resting([a(0)], [a(1)], [a(2)]), ("resting", 0))
        self.check(of_resting([a(1)], [a(0)]), of_resting([a(1)], [a(1)], [a(2)]), ("resting", 1))

    def test_dropped_of_only_one(self):
        self.check(of_dropped(a(0)), of_dropped(), ("dropped", a(0)))
        self.check(of_dropped(a(0), a(2)), of_dropped(a(0)), ("dropped", a(2)))

    def test_least_dropped_name_counts(self):
        self.check(of_dropped(a(9), a(10)), of_dropped(), ("dropped", a(9)))
        self.check(of_dropped(a(1), ("b", 0)), of_dropped(a(0), ("b", 0)), ("dropped", a(0)))
        self.check(of_dropped(a(0), a(1)), of_dropped(a(0), a(2)), ("dropped", a(1)))

    def test_kinds_in_their_order(self):
        parts = [[tuck(a(5))], [(a(6), a(7), [a(6)])], [[a(4)]], [a(3)]]
        expected = [("loops", a(5)), ("crossings", a(6), a(7)), ("resting", 0), ("dropped", a(3))]
        for k in range(16):
            chosen = tuple(part if k >> place & 1 else [] for place, part in enumerate(parts))
            kinds = [told for place, told in enumerate(expected) if k >> place & 1]
            self.check(chosen, ([], [], [], []), kinds[0] if kinds else None)

    def test_fabrics_of_two_yarns(self):
        one = fabric_of([("work", "right", [("tuck", "a"), ("tuck", "b")])])
        other = fabric_of([("work", "right", [("tuck", "b"), ("tuck", "a")])])
        self.check(one, other, ("resting", 0))

    def test_names_that_fit_nothing(self):
        one = ([(a(3), "knit", [("z", 8)], [("q", 9)])], [(a(0), a(8), [("z", 1)])], [[], [a(7)]], [("y", 6)])
        self.check(one, copy.deepcopy(one), None)
        self.check(one, ([(a(3), "knit", [("z", 8)], [("q", 8)])], *one[1:]), ("loops", a(3)))
        self.check(one, (one[0], [(a(0), a(8), [a(0)])], *one[2:]), ("crossings", a(0), a(8)))
        self.check(one, (*one[:2], [[]], one[3]), ("resting", 1))
        self.check(one, (*one[:2], [[a(7)], [a(7)]], one[3]), ("resting", 0))
        self.check(one, (*one[:3], [a(1), ("y", 6)]), ("dropped", a(1)))


if __name__ == "__main__":
    unittest.main()
