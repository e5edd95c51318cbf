"""The whole program: what one part gives is what the next one takes, and the fabric stays the same."""

import random
import unittest

from heldloops.charts import check_chart, fabric_of, mirror_chart, turn_chart, weave
from heldloops.codes import cost, read_code, write_code
from heldloops.compiling import compile_chart
from heldloops.errors import TooWide
from heldloops.fabrics import difference, mirrored, turned, undone
from heldloops.judging import judge
from heldloops.machine import fabric_of_code
from heldloops.reading_back import chart_of_code
from heldloops.shortening import shorten
from heldloops.texts import read_chart, write_chart
from heldloops.tidying import tidy
from samples import EXAMPLE, EXAMPLE_FABRIC, random_charts, slow_fabric, steady_chart
from test_shorten import PASSES
from timed import TimedTest


def room_for(chart):
    """The width of the least machine that has room for the chart."""
    return 2 * max(check_chart(chart)) + 1


class WholeProgramTest(TimedTest):

    def check(self, text, source):
        """From the text of a chart through all parts of the program."""
        chart = read_chart(text)
        fabric = fabric_of(chart)
        width, reach = room_for(chart) + source.randint(0, 3), source.randint(1, 5)
        code = read_code(write_code(compile_chart(chart, width, reach)))
        short = self.shortened(code, width, reach, source)
        self.assertIsNone(judge(short, chart, width, reach))
        back = chart_of_code(short, width, reach)
        tidied = read_chart(write_chart(tidy(back)))
        self.assertEqual(fabric_of(tidied), fabric)
        self.assertIsNone(difference(fabric_of_code(short, width, reach), fabric_of(tidied)))
        width, reach = room_for(tidied), source.choice([1, 2, 9, 100])
        code = compile_chart(tidied, width, reach)
        short = self.shortened(code, width, reach, source)
        self.assertEqual(fabric_of_code(short, width, reach), fabric)
        self.assertIsNone(judge(short, chart, width, reach))

    def shortened(self, code, width, reach, source):
        short = shorten(code, width, reach, source.sample(PASSES, 5))
        self.assertLessEqual(len(short), len(code))
        self.assertLessEqual(cost(short), cost(code))
        self.assertEqual(shorten(short, width, reach, source.sample(PASSES, 5)), short)
        return read_code(write_code(short))

    def test_drawn_charts(self):
        source = random.Random(121)
        for chart in random_charts(121, 250):
            self.check(write_chart(chart), source)

    def test_wide_charts(self):
        source = random.Random(122)
        for width in (1, 2, 17, 40, 60):
            self.check(write_chart(steady_chart(width, 12, width)), source)

    def test_woven_rows(self):
        source = random.Random(123)
        for _ in range(40):
            many = source.randint(1, 8)
            order, heights = source.sample(range(many), many), source.sample(range(many), many)
            chart = [("work", "right", [("tuck", "a")] * many), ("move", weave(order, heights)),
                     ("work", "left", [("knit", "a")] * many), ("move", weave(order, heights))]
            self.check(write_chart(chart), source)

    def test_images(self):
        source = random.Random(124)
        for chart in random_charts(124, 40):
            for image, expected in ((mirror_chart, mirrored), (turn_chart, turned)):
                text = write_chart(image(chart))
                self.assertEqual(fabric_of(read_chart(text)), expected(slow_fabric(chart)))
                self.check(text, source)

    def test_example(self):
        text = "right: 3 tuck a\nleft: knit a, 2 purl a\nmove: 1 left\nright: join 2 left knit b, pass"
        chart = read_chart(text)
        self.assertEqual(chart, EXAMPLE)
        self.assertEqual(write_chart(chart), text)
        self.assertEqual(check_chart(chart), [0, 3, 3, 3, 2])
        self.assertEqual(fabric_of(chart[:1])[2], [[("a", 0)], [("a", 1)], [("a", 2)]])
        self.assertEqual(fabric_of(chart[:2])[0][3:], EXAMPLE_FABRIC[0][3:6])
        self.assertEqual(fabric_of(chart[:3])[2], [[("a", 5)], [("a", 3)], [("a", 4)]])
        self.assertEqual(fabric_of(chart), EXAMPLE_FABRIC)
        self.assertEqual(undone(EXAMPLE_FABRIC), [])
        self.assertRaises(TooWide, compile_chart, chart, 6, 1)
        for width, reach in ((7, 1), (8, 2), (30, 100)):
            for end in range(5):
                code = compile_chart(chart[:end], width, reach)
                self.assertEqual(fabric_of_code(code, width, reach), fabric_of(chart[:end]))
            short = shorten(code, width, reach, PASSES)
            self.assertIsNone(judge(short, chart, width, reach))
            self.assertEqual(judge(short[:-1], chart, width, reach)[0], "loops")
            self.assertEqual(tidy(chart_of_code(short, width, reach)), chart_of_code(code, width, reach))
            self.assertEqual(fabric_of(chart_of_code(short, width, reach)), EXAMPLE_FABRIC)
        self.check(text, random.Random(125))

    def test_thousands_of_lines(self):
        self.check(write_chart(steady_chart(126, 3000, 8)), random.Random(126))

    def test_a_column_of_thousands_of_lines(self):
        lines = [("work", "left", [("purl", "a")]), ("work", "right", [("pass",)]), ("work", "right", [("knit", "b")])]
        chart = [("work", "right", [("tuck", "a")])] + lines * 3000 + [("work", "left", [("drop",)])]
        self.check(write_chart(chart), random.Random(127))
        self.assertEqual(len(undone(fabric_of_code(compile_chart(chart, 3, 1), 3, 1))), 6001)

    def test_lines_of_hundreds_of_columns(self):
        self.check(write_chart(steady_chart(128, 15, 400)), random.Random(128))

    def test_a_wide_row_that_is_reversed(self):
        many = 120
        order = list(range(many))[::-1]
        chart = [("work", "right", [("tuck", "a")] * many), ("move", weave(order, order)),
                 ("work", "left", [("purl", "a")] * many)]
        self.check(write_chart(chart), random.Random(129))

    def test_chart_lines_that_move_alone(self):
        tucks = ("work", "right", [("tuck", "a")] * 5)
        chart = [tucks] + [("move", [(k % 4, "left"), (k % 3, "right")]) for k in range(1500)]
        self.check(write_chart(chart), random.Random(130))
        self.assertEqual(len(tidy(chart)), 2)


if __name__ == "__main__":
    unittest.main()
