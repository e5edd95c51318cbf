"""shorten: code with the same fabric that is not longer and does not cost more (points 28 and 29)."""

import random
import unittest
from itertools import permutations

from drawn_code import drawn_codes
from heldloops.charts import check_chart
from heldloops.codes import cost
from heldloops.compiling import compile_chart
from heldloops.machine import fabric_of_code
from heldloops.shortening import shorten
from samples import EXAMPLE, random_charts, steady_chart
from slow_machine import SlowMachine, random_codes
from timed import TimedTest

PASSES = ["idle", "returns", "racks", "purls", "holds"]


def slow_fabric_of_code(code, width, reach):
    """The fabric of code that runs without a fault, by the slow machine."""
    machine = SlowMachine(width, reach)
    for instruction in code:
        assert machine.fault(instruction) is None, instruction
        machine.do(instruction)
    return machine.fabric()


def compiled_charts(seed, many):
    """Code of drawn charts, with the width and the reach of its machine."""
    source = random.Random(seed)
    for chart in random_charts(seed, many):
        width, reach = 2 * max(check_chart(chart)) + source.randint(1, 4), source.choice([1, 2, 3, 20])
        yield compile_chart(chart, width, reach), width, reach


def lists_of_passes(source):
    """Each pass alone, and some lists of several."""
    return [[name] for name in PASSES] + [source.sample(PASSES, many) for many in (2, 3, 4, 5)]


class ShortenTest(TimedTest):

    def check(self, code, width, reach, lists, fabric_of=fabric_of_code):
        fabric = fabric_of(code, width, reach)
        for passes in lists:
            short = shorten(code, width, reach, passes)
            self.assertEqual(fabric_of(short, width, reach), fabric, passes)
            self.assertLessEqual(len(short), len(code), passes)
            self.assertLessEqual(cost(short), cost(code), passes)

    def test_no_passes(self):
        for code, width, reach in drawn_codes(70, 50):
            short = shorten(code, width, reach, [])
            self.assertEqual(short, code)

    def test_empty_code(self):
        for passes in [[], PASSES] + [[name] for name in PASSES]:
            self.assertEqual(shorten([], 1, 0, passes), [])

    def test_compiled_charts(self):
        source = random.Random(71)
        for code, width, reach in compiled_charts(71, 150):
            self.check(code, width, reach, lists_of_passes(source))

    def test_drawn_code(self):
        source = random.Random(72)
        for code, width, reach in drawn_codes(72, 900):
            self.check(code, width, reach, lists_of_passes(source))

    def test_drawn_code_on_the_slow_machine(self):
        source = random.Random(73)
        for code, width, reach in drawn_codes(73, 60, 6):
            self.check(code, width, reach, lists_of_passes(source), slow_fabric_of_code)

    def test_code_of_drawn_instructions(self):
        source = random.Random(74)
        for code, width, reach in random_codes(74, 400, 30):
            self.check(code, width, reach, lists_of_passes(source))
        for code, width, reach in random_codes(75, 100, 40, wide=True):
            self.check(code, width, reach, lists_of_passes(source))

    def test_all_orders_of_all_passes(self):
        for code, width, reach in list(drawn_codes(76, 6, 14)) + list(compiled_charts(76, 4)):
            self.check(code, width, reach, [list(order) for order in permutations(PASSES)])

    def test_shortening_again_changes_nothing(self):
        source = random.Random(77)
        codes = list(drawn_codes(77, 250)) + list(compiled_charts(77, 60)) + list(random_codes(77, 100, 40))
        for code, width, reach in codes:
            short = shorten(code, width, reach, source.sample(PASSES, 5))
            for _ in range(6):
                self.assertEqual(shorten(short, width, reach, source.sample(PASSES, 5)), short)

    def test_shortening_again_in_each_order(self):
        for code, width, reach in list(drawn_codes(78, 5, 20)) + list(compiled_charts(78, 3)):
            for first in (PASSES, PASSES[::-1]):
                short = shorten(code, width, reach, first)
                for order in permutations(PASSES):
                    self.assertEqual(shorten(short, width, reach, list(order)), short)

    def test_kinds_of_values(self):
        code = compile_chart(EXAMPLE, 7, 1)
        for passes in ([], PASSES):
            short = shorten(code, 7, 1, passes)
            self.assertIs(type(short), list)
            self.assertIsNot(short, code)
            self.assertEqual({type(instruction) for instruction in short}, {tuple})

    def test_edges_of_the_machine(self):
        # The loops stand on the first and on the last needle, and the racks are at the ends of the reach.
        code = [("tuck", "front", 0, "a"), ("tuck", "front", 3, "a"), ("rack", -3), ("xfer", "front", 0), ("rack", 0),
                ("rack", 0), ("xfer", "back", 3), ("xfer", "back", 3), ("rack", 3), ("xfer", "front", 3), ("rack", -3),
                ("xfer", "back", 0), ("rack", 2)]
        self.check([instruction for instruction in code if instruction != ("xfer", "back", 0)], 4, 3,
                   [list(order) for order in permutations(PASSES)], slow_fabric_of_code)

    def test_long_code(self):
        for chart, reach in ((steady_chart(79, 3000, 10), 1), (steady_chart(80, 12, 500), 3)):
            width = 2 * max(check_chart(chart)) + 1
            code = compile_chart(chart, width, reach)
            self.check(code, width, reach, [PASSES, PASSES[::-1]])

    def test_long_code_of_one_kind(self):
        many = 10000
        transfers = [("xfer", "front", 1), ("xfer", "back", 1)] * many
        tucks = [("tuck", "front", 1, "a"), ("tuck", "front", 2, "a")]
        self.assertEqual(shorten(tucks + transfers, 3, 1, PASSES), tucks)
        self.assertEqual(shorten(tucks + [("rack", k % 2) for k in range(many)], 3, 1, PASSES), tucks)
        idle = [("xfer", "back", k % 3) for k in range(many)] + [("drop", "front", 0)] * many
        self.assertEqual(shorten(tucks + idle, 3, 1, PASSES), tucks)
        idle = [("xfer", "front", 0)] * (4 * many) + [("drop", "front", 0)] + [("rack", k % 2) for k in range(many)]
        for name in PASSES:
            self.check(tucks + idle + [("rack", 0)] + [("xfer", "back", 0)] * many + transfers, 3, 1, [[name]])
        row = range(0, 3 * many // 5, 3)
        holds = [("tuck", "front", i, "a") for i in row]
        for i in row:
            holds += [("rack", 0), ("xfer", "front", i), ("rack", 1), ("xfer", "back", i)]
        self.assertEqual(len(shorten(holds, 6000, 1, ["holds"])), 3 * len(row) + 2)


if __name__ == "__main__":
    unittest.main()
