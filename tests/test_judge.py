"""judge: whether code fits a chart (points 32 and 33)."""

import random
import unittest

from heldloops.charts import check_chart, fabric_of
from heldloops.codes import read_code
from heldloops.compiling import compile_chart
from heldloops.errors import MachineFault
from heldloops.fabrics import difference
from heldloops.judging import judge
from heldloops.machine import fabric_of_code
from heldloops.shortening import shorten
from samples import EXAMPLE, random_charts
from slow_machine import random_codes
from test_shorten import PASSES

A, B = ("a", 0), ("a", 1)


class JudgeTest(unittest.TestCase):

    def judged(self, text, chart, width=9, reach=9):
        return judge(read_code(text.replace(", ", "\n")), chart, width, reach)

    def test_code_that_fits(self):
        self.assertIsNone(judge([], [], 1, 0))
        self.assertIsNone(self.judged("tuck front 1 a, tuck back 5 a", [("work", "right", [("tuck", "a")] * 2)]))
        for chart in random_charts(111, 100) + [EXAMPLE]:
            width = 2 * max(check_chart(chart)) + 1
            code = compile_chart(chart, width, 2)
            self.assertIsNone(judge(code, chart, width, 2))
            self.assertIsNone(judge(shorten(code, width, 2, PASSES), chart, width, 2))

    def test_faults(self):
        chart = [("work", "right", [("tuck", "a")])]
        for text, index in (("rack 10", 0), ("tuck front 1 a, xfer front 9", 1), ("tuck front 1 a, knit front 2 a", 1),
                            ("tuck front 1 a, rack 0, tuck front 1 a, rack 99", 2), ("tuck front 1 a, tuck back 1 a", 1)):
            self.assertEqual(self.judged(text, chart), ("fault", index))

    def test_a_fault_counts_before_differences(self):
        self.assertEqual(self.judged("tuck front 1 b, rack 10", []), ("fault", 1))

    def test_loops(self):
        chart = [("work", "right", [("tuck", "a")] * 2), ("work", "right", [("join", 2, "left", "knit", "a")])]
        start = "tuck front 3 a, tuck front 4 a, xfer front 4, rack -1, xfer back 4, "
        self.assertIsNone(self.judged(start + "knit front 3 a", chart))
        self.assertEqual(self.judged(start + "xfer front 3, knit back 4 a", chart), ("loops", ("a", 2)))
        self.assertEqual(self.judged("tuck front 3 a", chart), ("loops", B))
        self.assertEqual(self.judged("tuck front 3 a, knit front 3 a", chart), ("loops", B))
        other = "tuck front 4 a, tuck front 3 a, xfer front 4, rack -1, xfer back 4, knit front 3 a"
        self.assertEqual(self.judged(other, chart), ("loops", ("a", 2)))
        self.assertEqual(self.judged("tuck front 3 b", []), ("loops", ("b", 0)))

    def test_crossings(self):
        tucks = ("work", "right", [("tuck", "a")] * 2)
        there_and_back = "tuck front 3 a, tuck back 4 a, rack -2, rack 0"
        self.assertIsNone(self.judged(there_and_back, [tucks, ("move", [(0, "left"), (0, "right")])]))
        for exchanges in ([(0, "left")] * 2, [(0, "right")] * 2, [], [(0, "left"), (0, "right")] * 2, [(0, "left")]):
            self.assertEqual(self.judged(there_and_back, [tucks, ("move", exchanges)]), ("crossings", A, B))
        self.assertEqual(self.judged("tuck front 3 a, tuck back 4 a, rack -1", [tucks, ("move", [(0, "left")])]),
                         ("crossings", A, B))

    def test_resting(self):
        chart = [("work", "right", [("tuck", "a")] * 2)]
        self.assertEqual(self.judged("tuck front 3 a, tuck front 2 a", chart), ("resting", 0))
        self.assertEqual(self.judged("tuck front 3 a, tuck back 2 a, rack 1", chart), ("resting", 0))
        self.assertEqual(self.judged("tuck front 3 a, tuck front 4 a, drop front 4", chart), ("resting", 1))

    def test_dropped(self):
        # What neither rests nor is drawn through is dropped, so code never drops others than a chart with the same
        # loops and columns: this kind of difference comes behind another one here.
        chart = [("work", "right", [("tuck", "a")] * 2), ("work", "right", [("drop",), ("pass",)])]
        start = "tuck front 3 a, tuck front 4 a"
        self.assertIsNone(self.judged(start + ", drop front 3", chart))
        self.assertEqual(self.judged(start + ", drop front 4", chart), ("resting", 0))
        self.assertEqual(self.judged(start, chart), ("resting", 0))
        self.assertEqual(self.judged(start + ", drop front 3, drop front 4", chart), ("resting", 0))

    def test_drawn_code_and_charts(self):
        source = random.Random(112)
        charts = random_charts(112, 40)
        kinds = {}
        for code, width, reach in random_codes(112, 300, 12, 0.01):
            chart = source.choice(charts)
            try:
                expected = difference(fabric_of_code(code, width, reach), fabric_of(chart))
            except MachineFault as fault:
                expected = ("fault", fault.index)
            self.assertEqual(judge(code, chart, width, reach), expected)
            kinds[expected[0]] = True
        self.assertEqual(sorted(kinds), ["fault", "loops"])

    def test_code_of_a_chart_that_is_almost_the_same(self):
        kinds = {}
        for chart in random_charts(113, 300):
            for k, line in enumerate(chart):
                for other in altered(line):
                    near = chart[:k] + [other] + chart[k + 1:]
                    code = compile_chart(near, 99, 3)
                    found = judge(code, chart, 99, 3)
                    self.assertEqual(found, difference(fabric_of(near), fabric_of(chart)))
                    kinds[found and found[0]] = True
        self.assertEqual(sorted(kinds, key=str), [None, "crossings", "loops", "resting"])


def altered(line):
    """Right lines that differ little from this one, and leave as many columns."""
    if line[0] == "move" and line[1]:
        yield ("move", line[1] + line[1][-1:])
        yield ("move", line[1][:-1])
        yield ("move", [(column, {"left": "right", "right": "left"}[over]) for column, over in line[1]])
    elif line[0] == "work":
        yield ("work", {"left": "right", "right": "left"}[line[1]], line[2])


if __name__ == "__main__":
    unittest.main()
