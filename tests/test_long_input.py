"""Charts of thousands of lines, and lines of thousands of commands (point 7), in seconds at most."""

import unittest

from heldloops.charts import check_chart, fabric_of, mirror_chart, row_of, turn_chart, weave
from heldloops.codes import cost, read_code, write_code
from heldloops.errors import CodeFault, TextFault
from heldloops.fabrics import difference, mirrored, turned, undone
from heldloops.texts import read_chart, write_chart
from timed import TimedTest


class LongInputTest(TimedTest):

    def check_all(self, chart, widths):
        self.assertEqual(check_chart(chart), widths)
        fabric = fabric_of(chart)
        self.assertEqual(row_of(chart), [column[0] for column in fabric[2]])
        self.assertEqual(fabric_of(mirror_chart(chart)), mirrored(fabric))
        self.assertEqual(fabric_of(turn_chart(chart)), turned(fabric))
        self.assertIsNone(difference(fabric, fabric_of(chart)))
        return fabric

    def test_one_column_dropped_at_the_end(self):
        many = 30000
        chart = [("work", "right", [("tuck", "a")])] + [("work", "left", [("knit", "a")])] * many
        fabric = self.check_all(chart, [0] + [1] * (many + 1))
        self.assertEqual(undone(fabric), [])
        fabric = self.check_all(chart + [("work", "right", [("drop",)])], [0] + [1] * (many + 1) + [0])
        self.assertEqual(undone(fabric), [("a", k) for k in range(many + 1)])

    def test_lines_of_many_commands(self):
        many = 40000
        chart = [("work", "right", [("tuck", "a")] * many),
                 ("work", "left", [("knit", "a"), ("purl", "b")] * (many // 2)),
                 ("move", [(k, "left") for k in range(many - 1)]),
                 ("work", "right", [("join", 4, "right", "knit", "a")] * (many // 4)),
                 ("work", "left", [("drop",), ("pass",)] * (many // 8))]
        fabric = self.check_all(chart, [0, many, many, many, many // 4, many // 8])
        self.assertEqual(len(fabric[1]), many - 1)
        self.assertEqual(len(undone(fabric)), many // 8 * 9)

    def test_many_lines_of_many_commands(self):
        many = 300
        chart = [("work", "right", [("tuck", "a")] * many)]
        for k in range(many):
            chart.append(("work", "left" if k % 2 else "right", [("knit", "a"), ("pass",)] * (many // 2)))
            chart.append(("move", [(column, "left") for column in range(k % 2, many - 1, 2)]))
        self.check_all(chart, [0] + [many] * (2 * many + 1))

    def test_two_loops_that_cross_often(self):
        many = 50000
        chart = [("work", "right", [("tuck", "a")] * 2), ("move", [(0, "left")] * many)] + [("move", [(0, "right")])] * many
        fabric = self.check_all(chart, [0] + [2] * (many + 2))
        self.assertEqual(fabric[1], [(("a", 0), ("a", 1), [("a", 0), ("a", 1)] * (many // 2) + [("a", 1), ("a", 0)] * (many // 2))])

    def test_weave_of_a_wide_row(self):
        many = 20000
        order = [column ^ 1 for column in range(many)]
        self.assertEqual(weave(order, list(range(many))), [(column, "right") for column in range(0, many, 2)])
        order = [many - 1] + list(range(many - 1))
        self.assertEqual(weave(order, list(range(many))), [(column, "right") for column in range(many - 2, -1, -1)])
        self.assertEqual(len(weave(list(range(600))[::-1], list(range(600)))), 600 * 599 // 2)

    def test_texts_of_many_lines(self):
        chart = [("work", "right", [("tuck", "a")] * 100)] + [("work", "left", [("knit", "a"), ("purl", "b")] * 50)] * 3000
        chart += [("move", [(k, "left") for k in range(99)])] * 500
        self.assertEqual(read_chart(write_chart(chart)), chart)

    def test_texts_of_long_lines(self):
        chart = [("work", "left", [("knit", "a"), ("pass",)] * 50000), ("work", "right", [("tuck", "abcdefgh")] * 300000),
                 ("move", [(k % 1000, "right") for k in range(50000)])]
        text = write_chart(chart)
        self.assertEqual(read_chart(text), chart)
        self.assertEqual(read_chart(text.replace(" left", "left").replace(", ", ",")), chart)

    def test_texts_of_long_words(self):
        for text in ("right: knit " + "a" * 500000, "right: " + "1" * 500000 + " pass", "move: " + "0" * 500000):
            self.assertRaises(TextFault, read_chart, text)
        self.assertEqual(read_chart("right:" + " " * 500000 + "pass"), [("work", "right", [("pass",)])])
        for text in ("rack " + "1" * 500000, "knit front 1 " + "a" * 500000, "rack" + " " * 500000 + "1"):
            self.assertRaises(CodeFault, read_code, text)

    def test_long_code(self):
        code = [("xfer", "front", 9), ("rack", -3), ("knit", "back", 12, "abc"), ("tuck", "back", 13, "d")] * 50000
        self.assertEqual(read_code(write_code(code)), code)
        self.assertEqual(cost(code), 150000)
        self.assertEqual(cost([("drop", "front", k) for k in range(200000)]), 1)


if __name__ == "__main__":
    unittest.main()
