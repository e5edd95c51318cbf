"""Charts of thousands of lines, and lines of thousands of commands (point 7), in seconds at most."""

import time
import unittest

from heldloops.charts import check_chart, fabric_of, mirror_chart, row_of, turn_chart, weave
from heldloops.fabrics import difference, mirrored, turned, undone

# Each of these takes less than a second here; what is quadratic takes minutes.
SECONDS = 20


class LongInputTest(unittest.TestCase):

    def setUp(self):
        self.began = time.perf_counter()

    def tearDown(self):
        self.assertLess(time.perf_counter() - self.began, SECONDS)

    def check_all(self, chart, widths):
        self.assertEqual(check_chart(chart), widths)
        fabric = fabric_of(chart)
        self.assertEqual(row_of(chart), [column[0] for column in fabric[2]])
        self.assertEqual(fabric_of(mirror_chart(chart)), mirrored(fabric))
        self.assertEqual(fabric_of(turn_chart(chart)), turned(fabric))
        self.assertIsNone(difference(fabric, fabric_of(chart)))
        return fabric

    def test_one_column_dropped_at_the_end(self):
        many = 30000
        chart = [("work", "right", [("tuck", "a")])] + [("work", "left", [("knit", "a")])] * many
        fabric = self.check_all(chart, [0] + [1] * (many + 1))
        self.assertEqual(undone(fabric), [])
        fabric = self.check_all(chart + [("work", "right", [("drop",)])], [0] + [1] * (many + 1) + [0])
        self.assertEqual(undone(fabric), [("a", k) for k in range(many + 1)])

    def test_lines_of_many_commands(self):
        many = 40000
        chart = [("work", "right", [("tuck", "a")] * many),
                 ("work", "left", [("knit", "a"), ("purl", "b")] * (many // 2)),
                 ("move", [(k, "left") for k in range(many - 1)]),
                 ("work", "right", [("join", 4, "right", "knit", "a")] * (many // 4)),
                 ("work", "left", [("drop",), ("pass",)] * (many // 8))]
        fabric = self.check_all(chart, [0, many, many, many, many // 4, many // 8])
        self.assertEqual(len(fabric[1]), many - 1)
        self.assertEqual(len(undone(fabric)), many // 8 * 9)

    def test_many_lines_of_many_commands(self):
        many = 300
        chart = [("work", "right", [("tuck", "a")] * many)]
        for k in range(many):
            chart.append(("work", "left" if k % 2 else "right", [("knit", "a"), ("pass",)] * (many // 2)))
            chart.append(("move", [(column, "left") for column in range(k % 2, many - 1, 2)]))
        self.check_all(chart, [0] + [many] * (2 * many + 1))

    def test_two_loops_that_cross_often(self):
        many = 50000
        chart = [("work", "right", [("tuck", "a")] * 2), ("move", [(0, "left")] * many)] + [("move", [(0, "right")])] * many
        fabric = self.check_all(chart, [0] + [2] * (many + 2))
        self.assertEqual(fabric[1], [(("a", 0), ("a", 1), [("a", 0), ("a", 1)] * (many // 2) + [("a", 1), ("a", 0)] * (many // 2))])

    def test_weave_of_a_wide_row(self):
        many = 20000
        order = [column ^ 1 for column in range(many)]
        self.assertEqual(weave(order, list(range(many))), [(column, "right") for column in range(0, many, 2)])
        order = [many - 1] + list(range(many - 1))
        self.assertEqual(weave(order, list(range(many))), [(column, "right") for column in range(many - 2, -1, -1)])
        self.assertEqual(len(weave(list(range(600))[::-1], list(range(600)))), 600 * 599 // 2)


if __name__ == "__main__":
    unittest.main()
