"""fabric_of and row_of: what a chart means (points 3, 4, 8 to 11)."""

import unittest

from heldloops.charts import fabric_of, row_of
from samples import EXAMPLE, EXAMPLE_FABRIC, random_charts, slow_fabric


def a(number):
    return ("a", number)


def tucks(many, yarn="a"):
    return ("work", "right", [("tuck", yarn)] * many)


def passes(many):
    return [("pass",)] * many


class FabricTest(unittest.TestCase):

    def test_example(self):
        self.assertEqual(fabric_of(EXAMPLE), EXAMPLE_FABRIC)
        self.assertEqual(row_of(EXAMPLE), [("b", 0), a(4)])
        self.assertEqual(row_of(EXAMPLE[:3]), [a(5), a(3), a(4)])
        self.assertEqual(row_of(EXAMPLE[:2]), [a(5), a(4), a(3)])

    def test_empty_chart(self):
        for chart in ([], [("work", "left", [])], [("move", [])]):
            self.assertEqual(fabric_of(chart), ([], [], [], []))
            self.assertEqual(row_of(chart), [])

    def test_kinds_of_values(self):
        fabric = fabric_of(EXAMPLE)
        self.assertEqual([type(part) for part in fabric], [list] * 4)
        self.assertIs(type(fabric), tuple)
        for loop in fabric[0]:
            self.assertEqual([type(part) for part in loop], [tuple, str, list, list])
        for crossing in fabric[1]:
            self.assertEqual([type(part) for part in crossing], [tuple, tuple, list])
        self.assertEqual([type(column) for column in fabric[2]], [list, list])
        self.assertIs(type(row_of(EXAMPLE)), list)

    def test_columns_are_taken_from_left_to_right_in_both_directions(self):
        for direction in ("right", "left"):
            chart = [tucks(3), ("work", direction, [("drop",), ("pass",), ("knit", "b")])]
            self.assertEqual(row_of(chart), [a(1), ("b", 0)])
            self.assertEqual(fabric_of(chart)[3], [a(0)])
            self.assertEqual(fabric_of(chart)[0][3], (("b", 0), "knit", [a(2)], [a(2)]))

    def test_loops_are_made_in_the_order_of_the_direction(self):
        commands = [("tuck", "a"), ("tuck", "b"), ("tuck", "a"), ("tuck", "a"), ("tuck", "b")]
        right = [a(0), ("b", 0), a(1), a(2), ("b", 1)]
        left = [a(2), ("b", 1), a(1), a(0), ("b", 0)]
        self.assertEqual(row_of([("work", "right", commands)]), right)
        self.assertEqual(row_of([("work", "left", commands)]), left)

    def test_yarns_go_on_in_later_lines(self):
        chart = [tucks(2), ("work", "left", [("knit", "a"), ("tuck", "b"), ("purl", "a")]),
                 ("work", "right", [("tuck", "a"), *passes(3), ("tuck", "b")])]
        self.assertEqual(row_of(chart), [a(4), a(3), ("b", 0), a(2), ("b", 1)])

    def test_knit_and_purl(self):
        loops = fabric_of([tucks(2), ("work", "right", [("purl", "b"), ("knit", "b")])])[0]
        self.assertEqual(loops[2:], [(("b", 0), "purl", [a(0)], [a(0)]), (("b", 1), "knit", [a(1)], [a(1)])])

    def test_joins(self):
        for many in (2, 3, 4):
            for side in ("knit", "purl"):
                place = [a(k) for k in range(1, many + 1)]
                left = ("join", many, "left", side, "b")
                right = ("join", many, "right", side, "b")
                made = fabric_of([tucks(many + 1), ("work", "left", [("pass",), left])])
                self.assertEqual(made[0][-1], (("b", 0), side, place, place))
                self.assertEqual(made[2], [[a(0)], [("b", 0)]])
                made = fabric_of([tucks(many + 1), ("work", "left", [("pass",), right])])
                self.assertEqual(made[0][-1], (("b", 0), side, place[::-1], place))

    def test_lists_of_a_loop_are_its_own(self):
        chart = [tucks(2), ("work", "right", [("knit", "a"), ("pass",)]),
                 ("work", "right", [("join", 2, "left", "knit", "a")])]
        for loop in fabric_of(chart)[0]:
            self.assertIsNot(loop[2], loop[3])

    def test_tuck_in_the_middle_of_a_row(self):
        chart = [tucks(2), ("work", "right", [("pass",), ("tuck", "b"), ("pass",), ("tuck", "b")])]
        self.assertEqual(fabric_of(chart)[2], [[a(0)], [("b", 0)], [a(1)], [("b", 1)]])
        self.assertEqual(fabric_of(chart)[0][2:], [(("b", 0), "tuck", [], []), (("b", 1), "tuck", [], [])])

    def test_drops(self):
        chart = [tucks(4), ("work", "left", [("pass",), ("drop",), ("purl", "a"), ("drop",)])]
        self.assertEqual(fabric_of(chart)[2:], ([[a(0)], [a(4)]], [a(1), a(3)]))

    def test_row_dropped_and_begun_anew(self):
        chart = [tucks(2), ("work", "right", [("drop",), ("drop",)]), tucks(1), ("work", "left", [("knit", "a")])]
        loops = [(a(0), "tuck", [], []), (a(1), "tuck", [], []), (a(2), "tuck", [], []), (a(3), "knit", [a(2)], [a(2)])]
        self.assertEqual(fabric_of(chart), (loops, [], [[a(3)]], [a(0), a(1)]))
        self.assertEqual(row_of(chart[:2]), [])

    def test_random_charts(self):
        for chart in random_charts(3, 400):
            fabric = slow_fabric(chart)
            self.assertEqual(fabric_of(chart), fabric)
            self.assertEqual(row_of(chart), [column[0] for column in fabric[2]])


class CrossingsTest(unittest.TestCase):

    def crossings(self, many, *moves):
        return fabric_of([tucks(many), *[("move", list(exchanges)) for exchanges in moves]])[1]

    def test_over(self):
        self.assertEqual(self.crossings(2, [(0, "left")]), [(a(0), a(1), [a(0)])])
        self.assertEqual(self.crossings(2, [(0, "right")]), [(a(0), a(1), [a(1)])])

    def test_pairs_are_in_order_wherever_they_lie(self):
        chart = [("work", "left", [("tuck", "a")] * 2), ("move", [(0, "left")])]
        self.assertEqual(fabric_of(chart)[1], [(a(0), a(1), [a(1)])])

    def test_overs_are_in_order_of_time(self):
        first = [(0, "left"), (0, "left"), (0, "right")]
        second = [(0, "left"), (0, "left")]
        self.assertEqual(self.crossings(2, first, second), [(a(0), a(1), [a(0), a(1), a(1), a(1), a(0)])])

    def test_exchanges_are_done_in_order(self):
        chart = [tucks(4), ("move", [(0, "left"), (1, "right"), (2, "left"), (0, "right")])]
        self.assertEqual(row_of(chart), [a(2), a(1), a(3), a(0)])
        expected = [(a(0), a(1), [a(0)]), (a(0), a(2), [a(2)]), (a(0), a(3), [a(0)]), (a(1), a(2), [a(2)])]
        self.assertEqual(fabric_of(chart)[1], expected)

    def test_crossings_of_lines_far_apart_stand_together(self):
        chart = [tucks(2), ("move", [(0, "left")]), ("work", "right", passes(2)), ("move", [(0, "left")])]
        self.assertEqual(fabric_of(chart)[1], [(a(0), a(1), [a(0), a(1)])])

    def test_crossings_of_loops_that_do_not_rest(self):
        chart = [tucks(2), ("move", [(0, "left")]), ("work", "right", [("knit", "b"), ("drop",)])]
        self.assertEqual(fabric_of(chart)[1], [(a(0), a(1), [a(0)])])
        self.assertEqual(fabric_of(chart)[0][2], (("b", 0), "knit", [a(1)], [a(1)]))


class OrdersTest(unittest.TestCase):
    """Names are ordered like tuples: by the yarn, as words are ordered, then by the number."""

    def test_loops(self):
        chart = [("work", "right", [("tuck", "b"), ("tuck", "ab")] + [("tuck", "a")] * 12 + [("tuck", "z")])]
        names = [loop[0] for loop in fabric_of(chart)[0]]
        self.assertEqual(names, [a(k) for k in range(12)] + [("ab", 0), ("b", 0), ("z", 0)])
        chart = [("work", "left", chart[0][2])]
        self.assertEqual([loop[0] for loop in fabric_of(chart)[0]], names)

    def test_crossings(self):
        chart = [tucks(12), ("move", [(k, "left") for k in (9, 1, 10, 8, 0, 2)])]
        pairs = [crossing[:2] for crossing in fabric_of(chart)[1]]
        self.assertEqual(pairs, [(a(0), a(2)), (a(1), a(2)), (a(1), a(3)), (a(8), a(10)), (a(9), a(10)), (a(9), a(11))])

    def test_crossings_of_several_yarns(self):
        chart = [("work", "right", [("tuck", "b"), ("tuck", "ab"), ("tuck", "z")]), ("move", [(1, "left"), (0, "left")])]
        expected = [(("ab", 0), ("z", 0), [("ab", 0)]), (("b", 0), ("z", 0), [("b", 0)])]
        self.assertEqual(fabric_of(chart)[1], expected)

    def test_dropped(self):
        commands = [("drop",) if k in (1, 2, 9, 10, 11) else ("pass",) for k in range(12)]
        chart = [tucks(12), ("work", "left", commands), ("work", "left", [("drop",)] + passes(6)),
                 ("work", "left", [("tuck", "ab"), ("tuck", "b"), *passes(6)]),
                 ("work", "right", [("drop",), ("drop",), *passes(6)])]
        expected = [a(0), a(1), a(2), a(9), a(10), a(11), ("ab", 0), ("b", 0)]
        self.assertEqual(fabric_of(chart)[3], expected)


if __name__ == "__main__":
    unittest.main()
