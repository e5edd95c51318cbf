"""No function modifies its arguments, and nothing is remembered between calls (point 2)."""

import copy
import unittest

from drawn_code import drawn_codes
from heldloops.charts import check_chart, fabric_of, mirror_chart, row_of, turn_chart, weave
from heldloops.codes import cost, read_code, write_code
from heldloops.compiling import compile_chart
from heldloops.errors import KnitError, MachineFault, TooWide, WrongChart
from heldloops.fabrics import difference, mirrored, turned, undone
from heldloops.judging import judge
from heldloops.machine import Machine, fabric_of_code
from heldloops.moves import carry, exchange, space
from heldloops.planning import least_plan
from heldloops.reading_back import chart_of_code
from heldloops.shortening import shorten
from heldloops.texts import read_chart, write_chart
from heldloops.tidying import tidy
from samples import EXAMPLE, EXAMPLE_FABRIC, random_charts
from slow_machine import random_codes
from test_shorten import PASSES


class ArgumentsTest(unittest.TestCase):

    def check(self, function, *arguments):
        before = copy.deepcopy(arguments)
        answer = function(*arguments)
        self.assertEqual(arguments, before, function.__name__)
        self.assertEqual(function(*arguments), answer, function.__name__)
        self.assertEqual(arguments, before, function.__name__)

    def test_functions_of_a_chart(self):
        for chart in [EXAMPLE] + random_charts(11, 60):
            for function in (check_chart, fabric_of, row_of, mirror_chart, turn_chart):
                self.check(function, chart)

    def test_texts(self):
        for chart in [EXAMPLE] + random_charts(13, 60):
            self.check(write_chart, chart)
            self.check(read_chart, write_chart(chart))

    def test_code(self):
        for code, width, reach in random_codes(14, 60, 30):
            self.check(fabric_of_code, code, width, reach)
            self.check(write_code, code)
            self.check(cost, code)
            self.check(read_code, write_code(code))

    def test_code_with_faults(self):
        for code, width, reach in random_codes(15, 60, 30, 1):
            before = list(code)
            machine = Machine(width, reach)
            with self.assertRaises(MachineFault):
                machine.run(code)
            self.assertEqual(code, before)

    def test_wrong_charts(self):
        for last in (("work", "right", [("join", 5, "left", "knit", "a")]), ("move", [(0, "left"), (9, "left")])):
            chart = EXAMPLE + [last]
            before = copy.deepcopy(chart)
            self.assertRaises(WrongChart, check_chart, chart)
            self.assertRaises(WrongChart, compile_chart, chart, 9, 1)
            self.assertRaises(TooWide, compile_chart, EXAMPLE, 6, 1)
            self.assertEqual(chart, before)

    def test_compiling(self):
        for chart in [EXAMPLE] + random_charts(16, 60):
            for reach in (1, 4, 50):
                self.check(compile_chart, chart, 99, reach)

    def test_moves_and_plans(self):
        for old, new in (([], []), ([1, 2, 6, 9], [2, 4, 5, 11]), ([3, 4, 5], [0, 4, 9]), ([2, 5], [2, 5])):
            for reach in (1, 2, 50):
                self.check(space, old, new, reach)
                self.check(least_plan, old, new, reach)
                self.check(carry, 5, 1, reach)
                self.check(exchange, 5, "left", reach)

    def test_shortening(self):
        for code, width, reach in list(drawn_codes(17, 60)) + list(random_codes(17, 60, 30)):
            for passes in ([], PASSES, PASSES[::-1]) + tuple([name] for name in PASSES):
                self.check(shorten, code, width, reach, passes)

    def test_reading_back_and_judging(self):
        charts = [EXAMPLE] + random_charts(18, 60)
        for chart, (code, width, reach) in zip(charts, random_codes(18, 61, 12, 0.05)):
            for told in (code, compile_chart(chart, 99, 2)):
                self.check(judge, told, chart, 99, 2)
            self.check(chart_of_code, told, 99, 2)
            before = list(code)
            try:
                chart_of_code(code, width, reach)
            except KnitError:
                pass
            self.assertEqual(code, before)

    def test_tidying(self):
        for chart in random_charts(19, 60):
            self.check(tidy, chart + [("move", []), ("move", [])])
            moves = [line for line in chart if line[0] == "move"]
            self.check(tidy, chart[:1] + moves + [("work", "left", [("pass",)] * len(chart[0][2]))] + moves)

    def test_charts_and_code_that_are_spoilt_later(self):
        code = compile_chart(EXAMPLE, 7, 1)
        before = copy.deepcopy(EXAMPLE)
        for chart in (chart_of_code(code, 7, 1), chart_of_code(code, 7, 1)):
            self.assertEqual(fabric_of(chart), EXAMPLE_FABRIC)
            for line in chart:
                line[-1].clear()
        shorten(code, 7, 1, []).clear()
        tidy(EXAMPLE).clear()
        self.assertEqual(code, compile_chart(EXAMPLE, 7, 1))
        self.assertEqual(EXAMPLE, before)

    def test_code_that_is_changed_later(self):
        before = copy.deepcopy(EXAMPLE)
        code = compile_chart(EXAMPLE, 7, 1)
        code.clear()
        self.assertEqual(EXAMPLE, before)
        self.assertNotEqual(compile_chart(EXAMPLE, 7, 1), [])
        plan = least_plan([1, 3], [2, 4], 1)
        plan[0][1].clear()
        self.assertEqual(least_plan([1, 3], [2, 4], 1), [(1, [0, 1])])

    def test_functions_of_fabrics(self):
        fabrics = [EXAMPLE_FABRIC] + [fabric_of(chart) for chart in random_charts(12, 60)]
        for fabric in fabrics:
            for function in (mirrored, turned, undone):
                self.check(function, fabric)
            self.check(difference, fabric, fabrics[0])
            self.check(difference, fabrics[0], fabric)

    def test_weave(self):
        self.check(weave, [3, 1, 4, 0, 2], [5, -1, 2, 9, 0])

    def test_answers_that_are_changed_later(self):
        chart = copy.deepcopy(EXAMPLE)
        fabric = fabric_of(chart)
        for part in fabric:
            part.clear()
        row_of(chart).clear()
        check_chart(chart).clear()
        self.assertEqual(chart, EXAMPLE)
        self.assertEqual(fabric_of(chart), EXAMPLE_FABRIC)

    def test_fabrics_of_a_chart_that_are_spoilt_within(self):
        chart = copy.deepcopy(EXAMPLE)
        loops, crossings, resting, _ = fabric_of(chart)
        for part in [loop[2] for loop in loops] + [loop[3] for loop in loops] + [overs for _, _, overs in crossings]:
            part.append(("z", 0))
        for column in resting:
            column.clear()
        self.assertEqual(chart, EXAMPLE)
        self.assertEqual(fabric_of(chart), EXAMPLE_FABRIC)

    def test_lines_of_a_read_chart_are_their_own(self):
        text = write_chart(EXAMPLE + EXAMPLE)
        for line in read_chart(text):
            line[-1].append("spoilt")
        self.assertEqual(read_chart(text), EXAMPLE + EXAMPLE)
        chart = read_chart("right: pass\nright: pass")
        chart[0][2].clear()
        self.assertEqual(chart[1], ("work", "right", [("pass",)]))


if __name__ == "__main__":
    unittest.main()
