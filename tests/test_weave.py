"""weave: exchanges that bring a row into an order (point 14)."""

import unittest
from itertools import combinations, permutations

from heldloops.charts import fabric_of, row_of, weave


class WeaveTest(unittest.TestCase):

    def check(self, order, heights):
        exchanges = weave(order, heights)
        row, crossed = list(range(len(order))), {}
        for column, over in exchanges:
            self.assertTrue(0 <= column < len(row) - 1)
            left, right = row[column], row[column + 1]
            self.assertNotIn((min(left, right), max(left, right)), crossed)
            crossed[min(left, right), max(left, right)] = {"left": left, "right": right}[over]
            row[column], row[column + 1] = right, left
        self.assertEqual(row, list(order))
        pairs = [pair for pair in combinations(range(len(order)), 2) if order.index(pair[0]) > order.index(pair[1])]
        self.assertEqual(sorted(crossed), pairs)
        self.assertEqual(crossed, {pair: max(pair, key=lambda column: heights[column]) for pair in pairs})

    def test_no_column_and_one_column(self):
        self.assertEqual(weave([], []), [])
        self.assertEqual(weave([0], [5]), [])

    def test_two_columns(self):
        self.assertEqual(weave([0, 1], [1, 2]), [])
        self.assertEqual(weave([1, 0], [1, 2]), [(0, "right")])
        self.assertEqual(weave([1, 0], [2, 1]), [(0, "left")])

    def test_all_orders_and_heights_of_up_to_four_columns(self):
        for many in range(5):
            for order in permutations(range(many)):
                for heights in permutations(range(many)):
                    self.check(list(order), list(heights))

    def test_all_orders_of_five_columns(self):
        huge = 10 ** 20
        several = ([0, 1, 2, 3, 4], [4, 3, 2, 1, 0], [2, 0, 4, 1, 3], [-7, 100, 0, -huge, huge], [3, -1, 9, 10, -2])
        for order in permutations(range(5)):
            for heights in several:
                self.check(list(order), heights)

    def test_order_says_which_column_stands_where(self):
        self.assertEqual(sorted(weave([2, 0, 1], [0, 1, 2])), [(0, "right"), (1, "right")])
        self.assertEqual(weave([2, 0, 1], [0, 1, 2])[0], (1, "right"))
        self.assertEqual(weave([1, 2, 0], [0, 1, 2]), [(0, "right"), (1, "right")])

    def test_woven_fabric(self):
        order, heights = [3, 0, 2, 1], [5, 2, 9, 4]
        chart = [("work", "right", [("tuck", "a")] * 4), ("move", weave(order, heights))]
        self.assertEqual(row_of(chart), [("a", column) for column in order])
        overs = {(first[1], second[1]): over for first, second, over in fabric_of(chart)[1]}
        expected = {(0, 3): [("a", 0)], (1, 2): [("a", 2)], (1, 3): [("a", 3)], (2, 3): [("a", 2)]}
        self.assertEqual(overs, expected)

    def test_kinds_of_values(self):
        exchanges = weave([2, 1, 0], [0, 1, 2])
        self.assertIs(type(exchanges), list)
        self.assertEqual([type(exchange) for exchange in exchanges], [tuple] * 3)


if __name__ == "__main__":
    unittest.main()
