"""compile_chart: code whose fabric is the fabric of the chart (points 12, 23 and 27)."""

import random
import unittest
from itertools import product

from heldloops.charts import check_chart, fabric_of
from heldloops.compiling import compile_chart
from heldloops.errors import TooWide, WrongChart
from heldloops.machine import fabric_of_code
from samples import EXAMPLE, EXAMPLE_FABRIC, random_charts, slow_fabric, steady_chart
from slow_machine import SlowMachine
from timed import TimedTest

REACHES = (1, 2, 3, 4, 12, 1000)


def tucks(many, yarn="a", direction="right"):
    return ("work", direction, [("tuck", yarn)] * many)


class CompileChartTest(unittest.TestCase):

    def check(self, chart, reaches=REACHES):
        """On a machine with just the needles that the chart needs, and on a greater one."""
        expected = slow_fabric(chart)
        for width in (2 * max(check_chart(chart)) + 1, 2 * max(check_chart(chart)) + 6):
            for reach in reaches:
                code = compile_chart(chart, width, reach)
                self.assertEqual(fabric_of_code(code, width, reach), expected)

    def test_example(self):
        self.check(EXAMPLE)
        self.assertEqual(fabric_of_code(compile_chart(EXAMPLE, 7, 1), 7, 1), EXAMPLE_FABRIC)

    def test_charts_without_loops(self):
        for chart in ([], [tucks(0)], [("move", [])], [("work", "left", []), ("move", []), ("work", "right", [])]):
            for width in (1, 2, 3, 10000):
                self.assertEqual(compile_chart(chart, width, 1), [])

    def test_kinds_of_values(self):
        code = compile_chart(EXAMPLE, 7, 1)
        self.assertIs(type(code), list)
        self.assertEqual({type(instruction) for instruction in code}, {tuple})

    def test_each_command(self):
        commands = [("knit", "b"), ("purl", "b"), ("pass",), ("drop",), ("tuck", "b")]
        commands += [("join", many, lean, side, "b") for many in (2, 3, 4) for lean in ("left", "right")
                     for side in ("knit", "purl")]
        for command in commands:
            many = {"join": command[1] if len(command) == 5 else 0, "tuck": 0}.get(command[0], 1)
            for before, behind in product((0, 1, 3), repeat=2):
                for direction in ("right", "left"):
                    passes = [("pass",)] * before, [("knit", "a")] * behind
                    chart = [tucks(before + many + behind), ("work", direction, passes[0] + [command] + passes[1])]
                    self.check(chart, (1, 3, 50))

    def test_joins_beside_joins(self):
        for seed in range(40):
            source = random.Random(seed)
            joins = [("join", source.randint(2, 4), source.choice(["left", "right"]), source.choice(["knit", "purl"]),
                      source.choice(["a", "b"])) for _ in range(source.randint(2, 6))]
            row = sum(join[1] for join in joins)
            self.check([tucks(row), ("work", source.choice(["left", "right"]), joins)])

    def test_tucks_between_and_beside_columns(self):
        for gaps in product((0, 1, 3), repeat=3):
            commands = []
            for gap in gaps:
                commands += [("tuck", "b")] * gap + [("purl", "a")]
            self.check([tucks(3), ("work", "left", commands[:-1] + [("pass",)])])

    def test_rows_that_are_dropped_whole(self):
        drops = ("work", "right", [("drop",)] * 3)
        self.check([tucks(3), drops])
        self.check([tucks(3), drops, tucks(2, "b", "left"), ("work", "left", [("join", 2, "right", "purl", "a")])])
        self.check([tucks(3), drops, ("move", []), tucks(0), tucks(3, "a", "left"), ("move", [(0, "left")]), drops])

    def test_moves_of_many_exchanges(self):
        source = random.Random(51)
        for width in (2, 3, 5, 9):
            exchanges = [(source.randrange(width - 1), source.choice(["left", "right"])) for _ in range(40)]
            row = ("work", "left", [("knit", "b"), ("purl", "a")] * (width // 2) + [("knit", "a")] * (width % 2))
            self.check([tucks(width), row, ("move", exchanges), row, ("move", exchanges[:7]), ("move", [])])

    def test_drawn_charts(self):
        for chart in random_charts(52, 250):
            self.check(chart, (1, 2, 5, 100))

    def test_rows_of_up_to_sixty_columns(self):
        for width in range(1, 61):
            self.check(steady_chart(width, 4, width), (1, 2, 12, 200))

    def test_on_the_slow_machine(self):
        for chart in random_charts(53, 25) + [EXAMPLE]:
            for reach in (1, 2, 30):
                machine = SlowMachine(2 * max(check_chart(chart)) + 1, reach)
                for instruction in compile_chart(chart, machine.width, reach):
                    self.assertIsNone(machine.fault(instruction))
                    machine.do(instruction)
                self.assertEqual(machine.fabric(), slow_fabric(chart))

    def test_all_loops_rest_on_the_front_bed(self):
        for chart in random_charts(54, 60):
            machine = SlowMachine(2 * max(check_chart(chart)) + 1, 3)
            for instruction in compile_chart(chart, machine.width, 3):
                machine.do(instruction)
            self.assertEqual([at for at in machine.held if at[0] == "back" and machine.held[at]], [])

    def test_no_error_beyond_the_least_reach(self):
        self.assertEqual(compile_chart([tucks(2)], 5, 0), [("tuck", "front", 1, "a"), ("tuck", "front", 3, "a")])
        self.assertIs(type(compile_chart(EXAMPLE, 7, 0)), list)


class RefusedChartsTest(unittest.TestCase):

    def refused(self, chart, width, line, item):
        for reach in (1, 5):
            with self.assertRaises(WrongChart) as caught:
                compile_chart(chart, width, reach)
            self.assertEqual((caught.exception.line, caught.exception.item), (line, item))

    def too_wide(self, chart, width, line):
        for reach in (1, 5):
            with self.assertRaises(TooWide) as caught:
                compile_chart(chart, width, reach)
            self.assertEqual(caught.exception.line, line)

    def test_wrong_charts(self):
        self.refused([("work", "right", [("knit", "a")])], 9, 0, 0)
        self.refused(EXAMPLE + [("work", "left", [("pass",)])], 9, 4, 1)
        self.refused(EXAMPLE + [("work", "left", [("pass",), ("join", 1, "left", "knit", "a")])], 9, 4, 1)
        self.refused(EXAMPLE + [("move", [(0, "left"), (1, "left")])], 9, 4, 1)

    def test_wrong_charts_that_are_too_wide_as_well(self):
        self.refused(EXAMPLE + [("work", "left", [("pass",)])], 1, 4, 1)
        self.refused([tucks(9), ("move", [(8, "left")])], 5, 1, 0)

    def test_machines_of_few_needles(self):
        for width in range(1, 14):
            most = (width - 1) // 2
            self.assertEqual(len(compile_chart([tucks(most)], width, 1)), most)
            self.too_wide([tucks(most + 1)], width, 0)
            self.too_wide([tucks(0), ("move", []), tucks(most + 1, "b", "left")], width, 2)

    def test_the_first_line_counts(self):
        grow = ("work", "right", [("pass",), ("tuck", "b"), ("pass",)])
        shrink = ("work", "left", [("drop",), ("pass",), ("drop",)])
        chart = [tucks(2), ("move", [(0, "left")]), grow, shrink]
        for width, line in ((1, 0), (2, 0), (3, 0), (4, 0), (5, 2), (6, 2)):
            self.too_wide(chart, width, line)
        self.assertEqual(fabric_of_code(compile_chart(chart, 7, 1), 7, 1), fabric_of(chart))
        # One line's own commands may come to fewer columns than there are before and behind it together.
        swap = ("work", "right", [("drop",)] * 3 + [("tuck", "b")] * 3)
        self.assertEqual(fabric_of_code(compile_chart([tucks(3), swap], 7, 1), 7, 1), fabric_of([tucks(3), swap]))

    def test_no_error_beyond_the_least_width(self):
        self.assertEqual(compile_chart([], 0, 1), [])


class LongChartsTest(TimedTest):

    def check(self, chart, width, reach):
        code = compile_chart(chart, width, reach)
        self.assertEqual(fabric_of_code(code, width, reach), fabric_of(chart))

    def test_thousands_of_lines(self):
        self.check(steady_chart(61, 4000, 8), 17, 1)
        self.check(steady_chart(62, 4000, 8), 10000, 10000)

    def test_lines_of_hundreds_of_columns(self):
        self.check(steady_chart(63, 12, 600), 1201, 2)
        self.check(steady_chart(64, 30, 600), 1201, 1200)

    def test_long_ways(self):
        closed = [tucks(400), ("work", "left", [("join", 4, "left", "knit", "a")] * 100)]
        opened = closed + [("work", "right", [("tuck", "b")] * 300 + [("knit", "a")] * 100)]
        self.check(opened + [("work", "right", [("drop",)] * 300 + [("pass",)] * 100)], 801, 1)


if __name__ == "__main__":
    unittest.main()
