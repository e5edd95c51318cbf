"""Machines of a width and a reach of 10000, and code of some thousand instructions, in seconds at most (point 23)."""

import unittest

from heldloops.errors import OutOfBed, OutOfReach
from heldloops.machine import Machine, fabric_of_code
from timed import TimedTest

GREAT = 10000


def tucks(bed, needles, yarn="a"):
    return [("tuck", bed, i, yarn) for i in needles]


class GreatMachineTest(TimedTest):

    def test_edges(self):
        machine = Machine(GREAT, GREAT)
        last = GREAT - 1
        machine.run([("tuck", "front", 0, "a"), ("tuck", "back", last, "a"), ("rack", -last)])
        machine.run([("xfer", "back", last), ("rack", last), ("tuck", "front", last, "b"), ("rack", GREAT)])
        self.assertEqual(machine.stack("front", 0), [("a", 0), ("a", 1)])
        for instruction in (("xfer", "front", 0), ("xfer", "front", last), ("xfer", "back", 0), ("drop", "back", GREAT)):
            self.assertRaises(OutOfBed, machine.step, instruction)
        for rack in (GREAT + 1, -GREAT - 1):
            self.assertRaises(OutOfReach, machine.step, ("rack", rack))
        machine.step(("rack", -GREAT))
        self.assertEqual(machine.fabric()[1:], ([], [[("a", 0), ("a", 1)], [("b", 0)]], []))

    def test_loops_that_cross(self):
        # The back loops lie to the right of the front ones, then to the left, and so on.
        many = 300
        code = tucks("front", range(5000, 5000 + many)) + tucks("back", range(8000, 8000 + many), "b")
        fabric = fabric_of_code(code + [("rack", -GREAT), ("rack", GREAT), ("rack", -GREAT)], GREAT, GREAT)
        self.assertEqual(len(fabric[1]), many * many)
        for k in (0, many - 1, many, many * many - 1):
            first, second, overs = fabric[1][k]
            self.assertEqual((first, second), (("a", k // many), ("b", k % many)))
            self.assertEqual(overs, [first] * 3)

    def test_two_loops_on_a_needle(self):
        many = 100
        code = tucks("front", range(2000, 2000 + 2 * many, 2)) + [("rack", 1999)] + tucks("back", range(0, 2 * many, 2))
        code += [("rack", 2000)] + [("xfer", "back", i) for i in range(0, 2 * many, 2)] + [("rack", -1000)]
        code += tucks("back", range(9000, 9000 + 2 * many, 2), "b") + tucks("front", range(8001, 8001 + 2 * many, 2), "b")
        code += [("rack", -999)] + [("xfer", "front", i) for i in range(8001, 8001 + 2 * many, 2)]
        machine = Machine(GREAT, GREAT)
        machine.run(code)
        self.assertEqual(machine.stack("front", 2000), [("a", 0), ("a", many)])
        self.assertEqual(machine.stack("back", 9000), [("b", many), ("b", 0)])
        self.assertEqual(machine.fabric()[1], [])
        machine.run([("rack", -GREAT), ("rack", 0)])
        crossings = machine.fabric()[1]
        names, others = [[(yarn, k) for k in range(2 * many)] for yarn in ("a", "b")]
        self.assertEqual(crossings, [(name, other, [name, name]) for name in names for other in others])

    def test_racks_past_many_loops_that_do_not_cross(self):
        # Many loops on both beds, of which those on the back bed stay to the right, whatever the rack is.
        code = tucks("front", range(2500)) + tucks("back", range(6000, 8500))
        code += [("rack", (-1) ** k * 1000) for k in range(3000)]
        self.assertEqual(fabric_of_code(code, GREAT, GREAT)[1], [])

    def test_columns_shared_again_and_again(self):
        many = 1000
        code = tucks("front", range(0, 2 * many, 2)) + tucks("back", range(1, 2 * many, 2))
        fabric = fabric_of_code(code + [("rack", k % 2) for k in range(2000)], GREAT, GREAT)
        self.assertEqual(fabric[1], [])
        fabric = fabric_of_code(code + [("rack", k % 3) for k in range(300)], GREAT, GREAT)
        self.assertEqual(len(fabric[1]), many - 1)
        self.assertEqual(fabric[1][0], (("a", 1), ("a", many), [("a", 1)] * 199))

    def test_one_loop_carried_past_many(self):
        code = tucks("front", range(5000)) + [("xfer", "front", 0)] + [("rack", k) for k in range(1, GREAT)]
        fabric = fabric_of_code(code + [("xfer", "back", 0)], GREAT, GREAT)
        self.assertEqual(fabric[1], [(("a", 0), ("a", k), [("a", k)]) for k in range(1, 5000)])
        self.assertEqual(fabric[2], [[("a", k)] for k in range(1, 5000)] + [[("a", 0)]])

    def test_one_loop_carried_step_by_step(self):
        code = tucks("front", range(4000))
        for k in range(3999, 9000):
            code += [("xfer", "front", k), ("rack", 1), ("xfer", "back", k), ("rack", 0)]
        fabric = fabric_of_code(code, GREAT, 1)
        self.assertEqual(fabric[1], [])
        self.assertEqual(fabric[2][-1], [("a", 3999)])

    def test_many_loops_on_one_needle(self):
        many = 1500
        code = []
        for k in range(many):
            code += [("rack", 1), ("tuck", "back", 0, "a"), ("rack", 5), ("xfer", "back", 0)]
        code += [("rack", 9), ("knit", "front", 5, "b")]
        fabric = fabric_of_code(code, GREAT, GREAT)
        names = [("a", k) for k in range(many)]
        self.assertEqual(fabric, ([(name, "tuck", [], []) for name in names]
                                  + [(("b", 0), "knit", names, names[::-1])], [], [[("b", 0)]], []))

    def test_two_high_stacks_that_meet_and_part(self):
        many = 600
        to_the_front = [("rack", 1), ("tuck", "back", 0, "a"), ("rack", 5), ("xfer", "back", 0)]
        to_the_back = [("rack", 8), ("tuck", "front", 9, "b"), ("rack", 9), ("xfer", "front", 9)]
        code = to_the_front * many + to_the_back * many + [("rack", 8 - k % 4) for k in range(2000)]
        fabric = fabric_of_code(code, GREAT, GREAT)
        self.assertEqual(fabric[1], [])
        self.assertEqual(fabric[2], [[("a", k) for k in range(many)] + [("b", k) for k in range(many)][::-1]])

    def test_wide_rows(self):
        code = tucks("front", range(GREAT)) + [("knit", "front", i, "a") for i in range(GREAT)] * 2
        fabric = fabric_of_code(code, GREAT, GREAT)
        self.assertEqual(fabric[0][-1], (("a", 3 * GREAT - 1), "knit", [("a", 2 * GREAT - 1)], [("a", 2 * GREAT - 1)]))
        self.assertEqual(fabric[2], [[("a", k)] for k in range(2 * GREAT, 3 * GREAT)])


if __name__ == "__main__":
    unittest.main()
