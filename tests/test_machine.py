"""The machine: instructions, faults, what it holds, and the fabric (points 18, 20 to 23)."""

import unittest

from heldloops.errors import Facing, KnitError, MachineFault, NeedleEmpty, NeedleFull, OutOfBed, OutOfReach
from heldloops.machine import Machine, fabric_of_code
from slow_machine import SlowMachine, random_codes

FAULTS = (OutOfReach, OutOfBed, NeedleEmpty, NeedleFull, Facing)
FAR = (10, 11, 999, 10 ** 6, 10 ** 30)


def a(number):
    return ("a", number)


def b(number):
    return ("b", number)


def ran(width, reach, *code):
    """A new machine after this code."""
    machine = Machine(width, reach)
    machine.run(list(code))
    return machine


def state(machine, width):
    """All that a machine tells of itself."""
    stacks = [machine.stack(bed, i) for bed in ("front", "back") for i in range(width)]
    return (machine.width, machine.reach, machine.rack, machine.done, stacks, machine.fabric())


class InstructionTest(unittest.TestCase):

    def test_new_machine(self):
        machine = Machine(7, 3)
        self.assertEqual((machine.width, machine.reach, machine.rack, machine.done), (7, 3, 0, 0))
        self.assertEqual(machine.fabric(), ([], [], [], []))
        for i in range(7):
            self.assertEqual([machine.stack("front", i), machine.stack("back", i)], [[], []])

    def test_rack(self):
        machine = Machine(2, 5)
        for done, rack in enumerate((0, 3, 3, -5, 5, 0)):
            self.assertEqual(machine.done, done)
            self.assertIsNone(machine.step(("rack", rack)))
            self.assertEqual(machine.rack, rack)

    def test_tuck(self):
        for bed in ("front", "back"):
            machine = Machine(3, 1)
            self.assertIsNone(machine.step(("tuck", bed, 2, "b")))
            machine.step(("tuck", bed, 0, "b"))
            machine.step(("tuck", bed, 1, "a"))
            self.assertEqual([machine.stack(bed, i) for i in range(3)], [[b(1)], [a(0)], [b(0)]])
            loops = [(a(0), "tuck", [], []), (b(0), "tuck", [], []), (b(1), "tuck", [], [])]
            self.assertEqual(machine.fabric(), (loops, [], [[b(1)], [a(0)], [b(0)]], []))

    def test_knit(self):
        for bed, side in (("front", "knit"), ("back", "purl")):
            machine = ran(2, 1, ("tuck", bed, 1, "a"), ("knit", bed, 1, "a"), ("knit", bed, 1, "b"))
            self.assertEqual(machine.stack(bed, 1), [b(0)])
            loops = [(a(0), "tuck", [], []), (a(1), side, [a(0)], [a(0)]), (b(0), side, [a(1)], [a(1)])]
            self.assertEqual(machine.fabric(), (loops, [], [[b(0)]], []))

    def test_drop(self):
        for bed in ("front", "back"):
            machine = ran(2, 1, ("tuck", bed, 0, "b"), ("tuck", bed, 1, "a"), ("drop", bed, 0), ("drop", bed, 0))
            self.assertEqual([machine.stack(bed, 0), machine.stack(bed, 1)], [[], [a(0)]])
            self.assertEqual(machine.fabric()[2:], ([[a(0)]], [b(0)]))
            machine.step(("drop", bed, 1))
            self.assertEqual(machine.fabric()[2:], ([], [a(0), b(0)]))
            self.assertEqual(machine.done, 5)

    def test_dropped_loops_are_in_order(self):
        code = [("tuck", "front", i, "a") for i in range(12)] + [("tuck", "front", 12, "ab"), ("tuck", "front", 13, "z")]
        machine = ran(14, 1, *code, *[("drop", "front", i) for i in (12, 11, 2, 10, 9, 0)])
        self.assertEqual(machine.fabric()[3], [a(0), a(2), a(9), a(10), a(11), ("ab", 0)])

    def test_xfer(self):
        for bed, other, rack, to in (("front", "back", 0, 2), ("back", "front", 0, 2), ("front", "back", 1, 1),
                                     ("back", "front", 1, 3), ("front", "back", -2, 4), ("back", "front", -2, 0)):
            machine = ran(5, 2, ("tuck", bed, 2, "a"), ("rack", rack), ("xfer", bed, 2))
            self.assertEqual(machine.stack(bed, 2), [])
            self.assertEqual([machine.stack(other, i) for i in range(5)], [[a(0)] if i == to else [] for i in range(5)])
            self.assertEqual(machine.fabric()[2], [[a(0)]])
            machine.step(("xfer", other, to))
            self.assertEqual([machine.stack(bed, 2), machine.stack(other, to)], [[a(0)], []])
            self.assertEqual(machine.done, 4)

    def test_xfer_of_nothing(self):
        code = [("tuck", "front", 1, "a")]
        for bed, i in (("front", 0), ("back", 0), ("back", 1), ("front", 2)):
            machine = ran(3, 1, *code, ("xfer", bed, i))
            self.assertEqual(machine.stack("front", 1), [a(0)])
            self.assertEqual(machine.fabric(), fabric_of_code(code, 3, 1))
            self.assertEqual(machine.done, 2)

    def test_stacks(self):
        # Loops from the front come to lie in front, loops from the back behind; they keep their order.
        to_the_back = ran(4, 3, *MEETING, ("xfer", "front", 1))
        self.assertEqual([to_the_back.stack("front", 1), to_the_back.stack("back", 0)], [[], [a(0), a(1)]])
        to_the_front = ran(4, 3, *MEETING, ("xfer", "back", 0))
        self.assertEqual([to_the_front.stack("front", 1), to_the_front.stack("back", 0)], [[a(0), a(1)], []])

    def test_stacks_of_several_loops(self):
        code = MEETING + [("xfer", "back", 0), ("rack", 3), ("tuck", "back", 0, "b"), ("rack", 1)]
        machine = ran(4, 3, *code, ("xfer", "front", 1))
        self.assertEqual(machine.stack("back", 0), [a(0), a(1), b(0)])
        self.assertEqual(ran(4, 3, *code, ("xfer", "back", 0)).stack("front", 1), [a(0), a(1), b(0)])
        machine.run([("rack", 2), ("tuck", "front", 1, "b"), ("rack", 1), ("xfer", "back", 0)])
        self.assertEqual(machine.stack("front", 1), [b(1), a(0), a(1), b(0)])
        machine.run([("drop", "front", 1)])
        self.assertEqual(machine.fabric()[3], [a(0), a(1), b(0), b(1)])

    def test_knit_through_several_loops(self):
        code = MEETING + [("xfer", "back", 0)]
        machine = ran(4, 3, *code, ("knit", "front", 1, "b"))
        self.assertEqual(machine.fabric()[0][-1], (b(0), "knit", [a(0), a(1)], [a(1), a(0)]))
        self.assertEqual(machine.stack("front", 1), [b(0)])
        machine = ran(4, 3, *MEETING, ("xfer", "front", 1), ("knit", "back", 0, "b"))
        self.assertEqual(machine.fabric()[0][-1], (b(0), "purl", [a(0), a(1)], [a(1), a(0)]))

    def test_resting_columns_with_loops_of_both_beds(self):
        machine = ran(4, 3, *MEETING)
        self.assertEqual(machine.fabric()[2], [[a(0), a(1)]])
        machine.step(("rack", -2))
        self.assertEqual(machine.fabric()[2], [[a(1)], [a(0)]])
        machine.step(("rack", 3))
        self.assertEqual(machine.fabric()[2], [[a(0)], [a(1)]])

    def test_columns_below_0_and_beyond_the_width_rest(self):
        code = [("tuck", "front", 1, "a"), ("tuck", "back", 0, "a"), ("tuck", "back", 2, "a")]
        self.assertEqual(ran(3, 9, *code, ("rack", -9)).fabric()[2], [[a(1)], [a(2)], [a(0)]])
        self.assertEqual(ran(3, 9, *code, ("rack", 9)).fabric()[2], [[a(0)], [a(1)], [a(2)]])

    def test_yarns_are_counted_apart(self):
        code = [("tuck", "front", 0, "b"), ("tuck", "front", 1, "a"), ("knit", "front", 0, "b"), ("knit", "front", 0, "a")]
        self.assertEqual([loop[0] for loop in fabric_of_code(code, 2, 1)[0]], [a(0), a(1), b(0), b(1)])

    def test_loops_are_in_order_of_names(self):
        code = [("tuck", "front", i, yarn) for i, yarn in enumerate(["b", "ab"] + ["a"] * 12 + ["z"])]
        names = [loop[0] for loop in fabric_of_code(code, 15, 0)[0]]
        self.assertEqual(names, [a(k) for k in range(12)] + [("ab", 0), b(0), ("z", 0)])

    def test_kinds_of_values(self):
        code = MEETING + [("xfer", "back", 0), ("knit", "front", 1, "b"), ("drop", "front", 1)]
        fabric = fabric_of_code(code + [("tuck", "front", 0, "b")], 4, 3)
        self.assertIs(type(fabric), tuple)
        self.assertEqual([type(part) for part in fabric], [list] * 4)
        for loop in fabric[0]:
            self.assertEqual([type(part) for part in loop], [tuple, str, list, list])
        crossed = ran(4, 3, *MEETING, ("rack", -2), ("rack", 3)).fabric()[1]
        self.assertEqual([type(part) for part in crossed[0]], [tuple, tuple, list])
        self.assertEqual([type(column) for column in fabric[2]], [list])
        self.assertIs(type(ran(4, 3, *MEETING).stack("front", 1)), list)


# (a, 0) on the front needle 1 and (a, 1), which came from the left, on the back needle 0 are held at the column 1.
MEETING = [("tuck", "front", 1, "a"), ("tuck", "back", 0, "a"), ("rack", 1)]


class FaultTest(unittest.TestCase):

    def refuses(self, fault, instruction, width, reach, *code):
        machine = ran(width, reach, *code)
        before = state(machine, width)
        for _ in range(2):
            with self.assertRaises(MachineFault, msg=str(instruction)) as caught:
                machine.step(instruction)
            self.assertIs(type(caught.exception), fault, instruction)
            self.assertEqual(caught.exception.index, len(code))
            self.assertEqual(state(machine, width), before)
        with self.assertRaises(fault) as caught:
            fabric_of_code([*code, instruction], width, reach)
        self.assertEqual(caught.exception.index, len(code))

    def test_out_of_reach(self):
        for reach in (0, 1, 9):
            for rack in (reach + 1,) + FAR:
                self.refuses(OutOfReach, ("rack", rack), 3, reach)
                self.refuses(OutOfReach, ("rack", -rack), 3, reach, ("tuck", "front", 0, "a"))
            self.assertEqual(ran(3, reach, ("rack", reach)).rack, reach)
            self.assertEqual(ran(3, reach, ("rack", -reach)).rack, -reach)

    def test_needles_that_there_are_not(self):
        for bed in ("front", "back"):
            for i in (-1, -2, 3, 4) + FAR + tuple(-far for far in FAR):
                for instruction in (("xfer", bed, i), ("knit", bed, i, "a"), ("tuck", bed, i, "a"), ("drop", bed, i)):
                    self.refuses(OutOfBed, instruction, 3, 20)
                    self.refuses(OutOfBed, instruction, 3, 20, ("tuck", bed, 0, "a"), ("rack", 2))
                    self.refuses(OutOfBed, instruction, 3, 20, ("rack", -2))

    def test_xfer_to_a_needle_that_there_is_not(self):
        for rack, bed, i in ((1, "front", 0), (1, "back", 2), (-1, "front", 2), (-1, "back", 0), (3, "front", 2),
                             (3, "back", 0), (-3, "front", 0), (-3, "back", 2), (9, "front", 1), (9, "back", 1)):
            self.refuses(OutOfBed, ("xfer", bed, i), 3, 9, ("rack", rack))
            self.refuses(OutOfBed, ("xfer", bed, i), 3, 9, ("tuck", bed, i, "a"), ("rack", rack))

    def test_xfer_beside_it(self):
        for rack, bed, i in ((1, "front", 1), (1, "back", 1), (-1, "front", 1), (-1, "back", 1), (2, "front", 2),
                             (2, "back", 0), (-2, "front", 0), (-2, "back", 2)):
            self.assertEqual(ran(3, 9, ("rack", rack), ("xfer", bed, i)).done, 2)

    def test_work_on_needles_that_face_none(self):
        for rack in (3, -3, 9):
            for bed in ("front", "back"):
                machine = ran(3, 9, ("rack", rack), ("tuck", bed, 1, "a"), ("knit", bed, 1, "a"), ("drop", bed, 1))
                self.assertEqual(machine.fabric()[3], [a(1)])

    def test_needle_empty(self):
        for bed in ("front", "back"):
            self.refuses(NeedleEmpty, ("knit", bed, 1, "a"), 3, 1)
            self.refuses(NeedleEmpty, ("knit", bed, 1, "a"), 3, 1, ("tuck", bed, 1, "a"), ("drop", bed, 1))
            self.refuses(NeedleEmpty, ("knit", bed, 1, "a"), 3, 1, ("tuck", bed, 1, "a"), ("xfer", bed, 1))

    def test_needle_full(self):
        for bed in ("front", "back"):
            self.refuses(NeedleFull, ("tuck", bed, 1, "b"), 3, 1, ("tuck", bed, 1, "a"))
            self.refuses(NeedleFull, ("tuck", bed, 1, "b"), 3, 1, ("tuck", bed, 1, "a"), ("knit", bed, 1, "a"))

    def test_facing(self):
        for bed, other in (("front", "back"), ("back", "front")):
            self.refuses(Facing, ("tuck", bed, 1, "a"), 3, 1, ("tuck", other, 1, "a"))
            shift = 1 if bed == "back" else -1
            self.refuses(Facing, ("tuck", bed, 1, "a"), 3, 1, ("tuck", other, 1 + shift, "a"), ("rack", 1))
            self.assertEqual(ran(3, 1, ("tuck", other, 1 + shift, "a"), ("tuck", bed, 1, "a")).done, 2)
        for instruction in (("knit", "front", 1, "b"), ("knit", "back", 0, "b")):
            self.refuses(Facing, instruction, 4, 3, *MEETING)

    def test_order_of_faults(self):
        # A needle that there is not, before what the needles hold.
        self.refuses(OutOfBed, ("knit", "back", 5, "a"), 3, 9, ("tuck", "front", 0, "a"), ("rack", -5))
        self.refuses(OutOfBed, ("tuck", "back", -1, "a"), 3, 9, ("tuck", "front", 0, "a"), ("rack", 1))
        # A knit on an empty needle, and a tuck on a full one, that face a needle which holds loops.
        for bed, other in (("front", "back"), ("back", "front")):
            self.refuses(NeedleEmpty, ("knit", bed, 1, "a"), 3, 1, ("tuck", other, 1, "a"))
        self.refuses(NeedleFull, ("tuck", "front", 1, "a"), 4, 3, *MEETING)
        self.refuses(NeedleFull, ("tuck", "back", 0, "a"), 4, 3, *MEETING)

    def test_faults_are_errors_of_the_program(self):
        for fault in FAULTS:
            self.assertTrue(issubclass(fault, MachineFault) and issubclass(fault, KnitError))
        self.assertRaises(KnitError, fabric_of_code, [("rack", 1)], 1, 0)

    def test_xfer_and_drop_take_no_heed_of_loops(self):
        for instruction in (("xfer", "front", 1), ("xfer", "back", 0), ("drop", "front", 1), ("drop", "back", 0)):
            self.assertEqual(ran(4, 3, *MEETING, instruction).done, 4)


class RunTest(unittest.TestCase):

    def index(self, function, *arguments):
        with self.assertRaises(MachineFault) as caught:
            function(*arguments)
        return caught.exception.index

    def test_run(self):
        machine = Machine(4, 3)
        self.assertIsNone(machine.run(MEETING))
        self.assertIsNone(machine.run([]))
        self.assertEqual((machine.done, machine.rack), (3, 1))

    def test_fault_in_a_run(self):
        code = MEETING[:2] + [("knit", "back", 3, "a")] + MEETING[2:]
        machine = Machine(4, 3)
        self.assertEqual(self.index(machine.run, code), 2)
        self.assertEqual((machine.done, machine.rack), (2, 0))
        self.assertEqual(machine.fabric(), fabric_of_code(MEETING[:2], 4, 3))
        machine.run(MEETING[2:])
        self.assertEqual(state(machine, 4), state(ran(4, 3, *MEETING), 4))

    def test_index_counts_all_runs_and_steps(self):
        machine = Machine(4, 3)
        machine.run(MEETING)
        self.assertEqual(self.index(machine.step, ("rack", 4)), 3)
        self.assertEqual(self.index(machine.run, [("rack", 1), ("drop", "back", 3), ("tuck", "front", 9, "a")]), 5)
        machine.step(("xfer", "front", 3))
        self.assertEqual(self.index(machine.run, [("rack", 0), ("knit", "front", 0, "a"), ("rack", 0)]), 7)
        self.assertEqual(machine.done, 7)
        self.assertEqual(self.index(machine.step, ("tuck", "front", 1, "a")), 7)

    def test_fabric_of_code(self):
        self.assertEqual(fabric_of_code([], 1, 0), ([], [], [], []))
        self.assertEqual(fabric_of_code(MEETING, 4, 3), ran(4, 3, *MEETING).fabric())
        self.assertEqual(self.index(fabric_of_code, MEETING + [("tuck", "back", 0, "a")], 4, 3), 3)

    def test_machines_are_apart(self):
        first, second = ran(4, 3, *MEETING), Machine(4, 3)
        self.assertEqual(state(second, 4), state(Machine(4, 3), 4))
        second.step(("tuck", "front", 3, "a"))
        self.assertEqual(state(first, 4), state(ran(4, 3, *MEETING), 4))


class RandomCodeTest(unittest.TestCase):
    """Each step of code at random, against a slow machine."""

    def compare(self, machine, slow):
        self.assertEqual((machine.width, machine.reach, machine.rack, machine.done),
                         (slow.width, slow.reach, slow.rack, slow.done))
        for bed, i in slow.held:
            self.assertEqual(machine.stack(bed, i), slow.held[bed, i])

    def check(self, code, width, reach):
        machine, slow = Machine(width, reach), SlowMachine(width, reach)
        refused = []
        for instruction in code:
            fault = slow.fault(instruction)
            if fault is None:
                machine.step(instruction)
                slow.do(instruction)
            else:
                with self.assertRaises(MachineFault) as caught:
                    machine.step(instruction)
                self.assertEqual((type(caught.exception).__name__, caught.exception.index), (fault, slow.done))
                refused.append(instruction)
            self.compare(machine, slow)
            if len(refused) % 3 == 0:
                self.assertEqual(machine.fabric(), slow.fabric())
        self.assertEqual(machine.fabric(), slow.fabric())
        return slow, refused

    def test_right_code(self):
        crossings = 0
        for code, width, reach in random_codes(41, 250, 40):
            slow, refused = self.check(code, width, reach)
            self.assertEqual(refused, [])
            crossings += len(slow.crossed)
            self.assertEqual(fabric_of_code(code, width, reach), slow.fabric())
        self.assertGreater(crossings, 1000)

    def test_code_with_faults(self):
        refused = 0
        for code, width, reach in random_codes(42, 200, 30, 0.3):
            refused += len(self.check(code, width, reach)[1])
        self.assertGreater(refused, 1000)

    def test_wide_machines(self):
        crossings = 0
        for code, width, reach in random_codes(44, 30, 80, wide=True):
            crossings += len(self.check(code, width, reach)[0].crossed)
        self.assertGreater(crossings, 1000)

    def test_long_code(self):
        for code, width, reach in random_codes(43, 10, 300):
            self.check(code, width, reach)


if __name__ == "__main__":
    unittest.main()
