"""chart_of_code: a chart with the fabric of code (point 30), and what it raises (points 21 and 30)."""

import unittest

from drawn_code import drawn_codes
from heldloops.charts import check_chart, fabric_of
from heldloops.codes import read_code
from heldloops.errors import KnitError, NoChart
from heldloops.reading_back import chart_of_code
from heldloops.shortening import shorten
from samples import random_charts, slow_fabric
from slow_machine import SlowMachine, random_codes
from test_shorten import PASSES, compiled_charts


def expected_of(code, width, reach):
    """The fabric of the code by the slow machine, or the name and the index of the error that the document asks."""
    machine = SlowMachine(width, reach)
    for index, instruction in enumerate(code):
        refused = machine.fault(instruction)
        if refused is not None:
            return refused, index
        machine.do(instruction)
        if instruction[0] == "knit":
            _, _, depth, place = machine.loops[-1]
            if len(depth) > 4 or depth != place and depth[::-1] != place:
                return "NoChart", index
    fabric = machine.fabric()
    return ("NoChart", len(code)) if any(len(column) > 1 for column in fabric[2]) else fabric


class ChartOfCodeTest(unittest.TestCase):

    def setUp(self):
        self.seen = {}

    def check(self, code, width, reach):
        expected = expected_of(code, width, reach)
        try:
            chart = chart_of_code(code, width, reach)
        except KnitError as error:
            self.assertEqual((type(error).__name__, error.index), expected)
            self.seen[expected[0]] = self.seen.get(expected[0], 0) + 1
            return None
        self.assertEqual(slow_fabric(chart), expected)
        check_chart(chart)
        self.seen["chart"] = self.seen.get("chart", 0) + 1
        return chart

    def read(self, text, width=9, reach=9):
        return self.check(read_code(text.replace(", ", "\n")), width, reach)

    def test_empty_code(self):
        for code in ([], [("rack", 1), ("xfer", "front", 1), ("drop", "back", 0)]):
            self.assertEqual(fabric_of(self.check(code, 3, 2)), ([], [], [], []))

    def test_code_of_charts(self):
        for code, width, reach in compiled_charts(91, 200):
            self.assertIsNotNone(self.check(code, width, reach))
            self.assertIsNotNone(self.check(shorten(code, width, reach, PASSES), width, reach))

    def test_code_of_charts_is_read_as_few_lines(self):
        for chart, (code, width, reach) in zip(random_charts(92, 200), compiled_charts(92, 200)):
            self.assertLessEqual(len(self.check(code, width, reach)), len(chart))

    def test_drawn_code(self):
        for seed in (93, 94):
            for code, width, reach in drawn_codes(seed, 400):
                self.check(code, width, reach)
        self.assertGreater(self.seen["chart"], 100)
        self.assertGreater(self.seen["NoChart"], 100)

    def test_code_of_drawn_instructions(self):
        for length in (4, 10, 25, 50):
            for code, width, reach in random_codes(95 + length, 150, length):
                self.check(code, width, reach)
            for code, width, reach in random_codes(96 + length, 60, length, wide=True):
                self.check(code, width, reach)
        self.assertGreater(self.seen["chart"], 100)
        self.assertGreater(self.seen["NoChart"], 100)

    def test_code_with_faults(self):
        for code, width, reach in random_codes(97, 500, 20, 0.1):
            self.check(code, width, reach)
        names = ["chart", "NoChart", "OutOfReach", "OutOfBed", "NeedleEmpty", "NeedleFull", "Facing"]
        self.assertEqual([name for name in names if not self.seen.get(name)], [])

    def test_one_loop_through_one(self):
        chart = self.read("tuck front 3 a, knit front 3 a, xfer front 3, knit back 3 b, knit back 3 a")
        self.assertEqual(sum(len(line[2]) for line in chart), 4)

    def gathered(self, needles, first="a"):
        """Tucks of these needles, carried behind the loop of the needle 4 one after the other."""
        code = ["tuck front 4 " + first] + [f"tuck front {i} a" for i in needles]
        for i in needles:
            code += ["rack 0", f"xfer front {i}", f"rack {4 - i}", f"xfer back {i}"]
        return ", ".join(code)

    def test_joins(self):
        for needles, lean in (([5], "left"), ([5, 6, 7], "left"), ([3], "right"), ([3, 2], "right"), ([3, 2, 1], "right")):
            for knit, side in (("knit front 4 b", "knit"), ("rack 2, xfer front 4, knit back 2 b", "purl")):
                chart = self.read(f"{self.gathered(needles)}, {knit}")
                self.assertEqual(chart[-1][2], [("join", len(needles) + 1, lean, side, "b")])

    def test_joins_over_dropped_loops(self):
        tucks = ", ".join([f"tuck front {i} a" for i in (3, 4, 5, 6)])
        for drops in ("drop front 4", "drop front 4, drop front 6", "drop front 4, knit front 6 a"):
            chart = self.read(f"{tucks}, {drops}, xfer front 5, rack -2, xfer back 5, knit front 3 b")
            self.assertIn(("join", 2, "left", "knit", "b"), chart[-1][2])

    def test_knit_through_more_than_four_loops(self):
        for needles in ([5, 6, 7, 8], [3, 2, 1, 0]):
            self.refused(self.gathered(needles) + ", knit front 4 b", 21)
        self.refused(self.gathered([5, 6, 7, 8]) + ", rack 0, knit front 4 b, knit front 4 b, knit front 0 b", 22)
        self.assertIsNotNone(self.read(self.gathered([5, 6, 7, 8]) + ", drop front 4"))

    def test_knit_through_loops_in_no_order(self):
        self.refused(self.gathered([5, 3]) + ", knit front 4 b, knit front 4 b", 11)
        self.refused(self.gathered([3, 5, 6]) + ", knit front 4 b", 16)
        self.refused("tuck front 0 a, " + self.gathered([3, 5]) + ", xfer front 4, knit back 5 b", 13)
        self.assertIsNotNone(self.read(self.gathered([5, 3]) + ", drop front 4"))

    def refused(self, text, index):
        self.assertIsNone(self.read(text))
        with self.assertRaises(NoChart) as caught:
            chart_of_code(read_code(text.replace(", ", "\n")), 9, 9)
        self.assertEqual(caught.exception.index, index)

    def test_columns_of_several_loops_at_the_end(self):
        self.refused("tuck front 1 a, tuck back 0 a, rack 1", 3)
        self.refused("tuck front 1 a, tuck back 0 a, rack 1, xfer back 0", 4)
        self.refused("tuck front 1 a, tuck back 0 a, rack 1, xfer front 1, rack 0, rack 2", 6)
        self.assertIsNotNone(self.read("tuck front 1 a, tuck back 0 a, rack 1, rack 0"))
        self.assertIsNotNone(self.read("tuck front 1 a, tuck back 0 a, rack 1, xfer back 0, drop front 1"))

    def test_faults_and_knits_that_no_chart_has(self):
        spoilt = self.gathered([5, 3]) + ", knit front 4 b"
        self.refused(spoilt + ", rack 77, tuck front 99 a", 11)
        for text in ("rack 10", "xfer back 12", "knit front 2 a", "tuck front 4 a"):
            self.assertIsNone(self.read(text + ", " + spoilt if text != "tuck front 4 a" else "tuck front 4 b, " + spoilt))
        self.assertEqual(sorted(self.seen), ["NeedleEmpty", "NeedleFull", "NoChart", "OutOfBed", "OutOfReach"])
        # A knit that is refused draws nothing, so its loops do not matter.
        facing = self.gathered([5, 3]) + ", rack 0, tuck back 2 a, rack 2, knit front 4 b"
        self.assertIsNone(self.read(facing))
        self.assertEqual(self.seen["Facing"], 1)

    def test_needles_and_racks_that_there_are_not(self):
        for text in ("tuck front 999999 a", "rack 999999", "rack -999999", "xfer back 999999", "drop front 10"):
            for ahead in ("", "tuck front 0 a, knit front 0 a, "):
                self.assertIsNone(self.read(ahead + text))
        self.assertIsNone(self.check([("tuck", "front", -1, "a")], 3, 1))
        self.assertEqual(sorted(self.seen), ["OutOfBed", "OutOfReach"])

    def test_loops_that_share_a_column_and_part(self):
        start = "tuck front 3 a, tuck back 2 a, rack 1, "
        for text in ("rack 0", "rack 2", "rack 0, rack 2, rack 1, rack 0", "tuck front 5 b, rack 3, rack 1, rack -1",
                     "xfer back 2, rack 0, xfer front 3, drop back 3", "tuck front 4 a, drop back 2, knit front 3 a",
                     "tuck back 3 a, tuck back 1 b, drop front 3, knit back 2 b, tuck front 6 a"):
            self.assertIsNotNone(self.read(start + text))

    def test_tucks_beside_shared_columns(self):
        for racks in ("rack 1", "rack 2, rack 1"):
            for bed in ("front", "back"):
                for needle in (0, 1, 3, 4, 5, 7) if bed == "back" else (0, 1, 2, 4, 5, 7):
                    text = f"tuck front 3 a, tuck back 2 a, {racks}, tuck {bed} {needle} b, rack 0, rack 1, rack 4"
                    self.assertIsNotNone(self.read(text))

    def test_stacks_that_cross_and_part(self):
        two = "tuck front 3 a, tuck back 2 a, rack 1, xfer back 2, rack 0, "
        apart = ", rack 0, xfer front 3, rack 1, drop back 3, tuck front 0 a"
        for text in ("tuck back 1 b, tuck back 0 b, rack 5, rack 0", "tuck back 8 b, rack -7, rack 0, rack -7, rack 2",
                     "xfer front 3, tuck front 5 b, tuck front 6 b, rack 2, rack 5, rack -1, rack 0, xfer back 3"):
            self.assertIsNotNone(self.read(two + text + apart))

    def test_a_yarn_that_goes_both_ways(self):
        text = ", ".join([f"tuck front {i} {yarn}" for i, yarn in ((3, "a"), (1, "a"), (2, "a"), (5, "b"), (6, "b"), (4, "b"))])
        chart = self.read(text + ", tuck front 0 b")
        self.assertEqual([line[1] for line in chart], ["left", "right", "left"])
        self.assertEqual([len(line[2]) for line in chart], [2, 5, 7])

    def test_kinds_of_values(self):
        chart = self.read("tuck front 3 a, tuck back 2 a, rack 2, rack 0, knit front 3 a")
        self.assertIs(type(chart), list)
        for line in chart:
            self.assertEqual((type(line), type(line[-1])), (tuple, list))
            self.assertEqual({type(part) for part in line[-1]}, {tuple})


if __name__ == "__main__":
    unittest.main()
