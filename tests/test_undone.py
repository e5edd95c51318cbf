"""undone: the loops that come undone (point 5)."""

import unittest

from heldloops.charts import fabric_of
from heldloops.fabrics import undone
from samples import EXAMPLE_FABRIC, random_charts


def a(number):
    return ("a", number)


def tucks(many):
    return ("work", "right", [("tuck", "a")] * many)


def right(*commands):
    return ("work", "right", list(commands))


def slowly_undone(fabric):
    """Goes over all loops again until none more comes undone."""
    found = set(fabric[3])
    while True:
        more = {under for name, _, depth, _ in fabric[0] if name in found for under in depth}
        if more <= found:
            return sorted(found)
        found |= more


class UndoneTest(unittest.TestCase):

    def test_nothing_dropped(self):
        self.assertEqual(undone(EXAMPLE_FABRIC), [])
        self.assertEqual(undone(([], [], [], [])), [])

    def test_dropped_loops(self):
        fabric = fabric_of([tucks(3), right(("drop",), ("pass",), ("drop",))])
        self.assertEqual(undone(fabric), [a(0), a(2)])

    def test_way_to_a_dropped_loop(self):
        lines = [tucks(2), right(("knit", "a"), ("purl", "b")), right(("purl", "a"), ("knit", "b"))]
        self.assertEqual(undone(fabric_of(lines)), [])
        self.assertEqual(undone(fabric_of(lines + [right(("drop",), ("pass",))])), [a(0), a(2), a(3)])
        self.assertEqual(undone(fabric_of(lines + [right(("pass",), ("drop",))])), [a(1), ("b", 0), ("b", 1)])

    def test_one_loop_carries_several(self):
        for lean in ("left", "right"):
            lines = [tucks(6), right(("join", 4, lean, "knit", "b"), ("pass",), ("knit", "b"))]
            fabric = fabric_of(lines + [right(("drop",), ("pass",), ("pass",))])
            self.assertEqual(undone(fabric), [a(0), a(1), a(2), a(3), ("b", 0)])

    def test_joins_of_joins(self):
        pair = ("join", 2, "left", "purl", "a")
        lines = [tucks(4), right(pair, pair), right(("join", 2, "right", "knit", "c"))]
        self.assertEqual(undone(fabric_of(lines)), [])
        self.assertEqual(undone(fabric_of(lines + [right(("drop",))])), [a(k) for k in range(6)] + [("c", 0)])

    def test_no_loop_above_a_dropped_one(self):
        lines = [tucks(2), right(("drop",), ("pass",)), right(("knit", "a")), right(("knit", "a"))]
        self.assertEqual(undone(fabric_of(lines)), [a(0)])

    def test_ascending(self):
        lines = [right(("tuck", "b"), ("tuck", "ab"), *[("tuck", "a")] * 12), right(*[("drop",)] * 14)]
        self.assertEqual(undone(fabric_of(lines)), [a(k) for k in range(12)] + [("ab", 0), ("b", 0)])

    def test_columns_of_several_loops(self):
        loops = [(a(0), "tuck", [], []), (a(1), "tuck", [], []), (a(2), "knit", [a(1), a(0)], [a(0), a(1)]),
                 (a(3), "tuck", [], []), (a(4), "tuck", [], [])]
        self.assertEqual(undone((loops, [], [[a(3), a(4)]], [a(2)])), [a(0), a(1), a(2)])
        self.assertEqual(undone((loops, [], [[a(2), a(4)]], [a(3)])), [a(3)])

    def test_random_charts(self):
        for chart in random_charts(9, 300):
            fabric = fabric_of(chart)
            names = undone(fabric)
            self.assertEqual(names, slowly_undone(fabric))
            self.assertEqual([column for column in fabric[2] if column[0] in names], [])


if __name__ == "__main__":
    unittest.main()
