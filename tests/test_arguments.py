"""No function modifies its arguments, and nothing is remembered between calls (point 2)."""

import copy
import unittest

from heldloops.charts import check_chart, fabric_of, mirror_chart, row_of, turn_chart, weave
from heldloops.errors import WrongChart
from heldloops.fabrics import difference, mirrored, turned, undone
from samples import EXAMPLE, EXAMPLE_FABRIC, random_charts


class ArgumentsTest(unittest.TestCase):

    def check(self, function, *arguments):
        before = copy.deepcopy(arguments)
        answer = function(*arguments)
        self.assertEqual(arguments, before, function.__name__)
        self.assertEqual(function(*arguments), answer, function.__name__)
        self.assertEqual(arguments, before, function.__name__)

    def test_functions_of_a_chart(self):
        for chart in [EXAMPLE] + random_charts(11, 60):
            for function in (check_chart, fabric_of, row_of, mirror_chart, turn_chart):
                self.check(function, chart)

    def test_wrong_charts(self):
        for last in (("work", "right", [("join", 5, "left", "knit", "a")]), ("move", [(0, "left"), (9, "left")])):
            chart = EXAMPLE + [last]
            before = copy.deepcopy(chart)
            self.assertRaises(WrongChart, check_chart, chart)
            self.assertEqual(chart, before)

    def test_functions_of_fabrics(self):
        fabrics = [EXAMPLE_FABRIC] + [fabric_of(chart) for chart in random_charts(12, 60)]
        for fabric in fabrics:
            for function in (mirrored, turned, undone):
                self.check(function, fabric)
            self.check(difference, fabric, fabrics[0])
            self.check(difference, fabrics[0], fabric)

    def test_weave(self):
        self.check(weave, [3, 1, 4, 0, 2], [5, -1, 2, 9, 0])

    def test_answers_that_are_changed_later(self):
        chart = copy.deepcopy(EXAMPLE)
        fabric = fabric_of(chart)
        for part in fabric:
            part.clear()
        row_of(chart).clear()
        check_chart(chart).clear()
        self.assertEqual(chart, EXAMPLE)
        self.assertEqual(fabric_of(chart), EXAMPLE_FABRIC)


if __name__ == "__main__":
    unittest.main()
