"""Which loops cross on the machine, and how loops lie that share a column (point 19)."""

import unittest

from heldloops.machine import Machine

A, B, C, D = [("a", number) for number in range(4)]


class CrossingsTest(unittest.TestCase):

    def machine(self, *code):
        machine = Machine(8, 20)
        machine.run(list(code))
        return machine

    def crosses(self, expected, *code):
        self.assertEqual(self.machine(*code).fabric()[1], expected)

    def racks(self, *racks):
        return [("rack", rack) for rack in racks]

    def test_two_loops_on_unlike_beds(self):
        for front, back in ((3, 2), (3, 0), (5, 0)):
            code = [("tuck", "front", front, "a"), ("tuck", "back", back, "a")]
            between = front - back
            self.crosses([(A, B, [A])], *code, ("rack", between + 1))
            self.crosses([(A, B, [A])], *code, ("rack", 20))
            self.crosses([], *code, ("rack", between))
            self.crosses([], *code, ("rack", between - 1))
            self.crosses([], *code, ("rack", -20))

    def test_the_loop_on_the_front_bed_lies_over(self):
        for front, back, rack in ((3, 2, 2), (2, 3, -2)):
            self.crosses([(A, B, [A])], ("tuck", "front", front, "a"), ("tuck", "back", back, "a"), ("rack", rack))
            self.crosses([(A, B, [B])], ("tuck", "back", back, "a"), ("tuck", "front", front, "a"), ("rack", rack))

    def test_there_and_back(self):
        code = [("tuck", "front", 3, "a"), ("tuck", "back", 2, "a")]
        self.crosses([(A, B, [A, A])], *code, *self.racks(2, 0))
        self.crosses([(A, B, [A] * 5)], *code, *self.racks(5, -5, 2, 0, 2))
        self.crosses([(A, B, [A] * 2)], *code, *self.racks(2, 3, 2, 20, 20, 2, 0, -20, 0))

    def test_overs_are_in_order_of_time(self):
        beds_exchanged = [("xfer", "front", 3), ("xfer", "back", 2), ("rack", -1)]
        code = [("tuck", "front", 3, "a"), ("tuck", "back", 2, "a"), *self.racks(2, 0), *beds_exchanged]
        machine = self.machine(*code)
        self.assertEqual([machine.stack("front", 2), machine.stack("back", 3)], [[B], [A]])
        self.assertEqual(machine.fabric()[1], [(A, B, [A, A])])
        machine.run(self.racks(-2, 0, -5))
        self.assertEqual(machine.fabric()[1], [(A, B, [A, A, B, B, B])])

    def test_through_one_column(self):
        code = [("tuck", "front", 3, "a"), ("tuck", "back", 2, "a")]
        self.crosses([], *code, ("rack", 1))
        self.crosses([], *code, *self.racks(1, 0))
        self.crosses([(A, B, [A])], *code, *self.racks(1, 2))
        self.crosses([(A, B, [A])], *code, *self.racks(1, 1, 2, 1, 2))
        self.crosses([(A, B, [A, A])], *code, *self.racks(1, 2, 1, 0, 1))
        code = [("tuck", "front", 3, "a"), ("tuck", "back", 4, "a")]
        self.crosses([], *code, *self.racks(-1, 0))
        self.crosses([(A, B, [A])], *code, *self.racks(-1, -2, -1))
        self.crosses([(A, B, [A, A])], *code, *self.racks(-1, -2, -1, 3))

    def test_order_in_a_column_stays_over_transfers(self):
        # B comes from the left to the column of A, and both go to one bed: no one crosses until they part.
        code = [("tuck", "front", 3, "a"), ("tuck", "back", 2, "a"), ("rack", 1), ("xfer", "back", 2)]
        machine = self.machine(*code)
        self.assertEqual(machine.stack("front", 3), [A, B])
        machine.run([("rack", 5), ("rack", 0), ("xfer", "front", 3), ("rack", 7), ("rack", -7)])
        self.assertEqual(machine.fabric()[1], [])
        self.assertEqual(machine.stack("back", 3), [A, B])
        machine.step(("knit", "back", 3, "b"))
        self.assertEqual(machine.fabric()[0][-1], (("b", 0), "purl", [A, B], [B, A]))

    def test_loops_of_one_bed_do_not_cross(self):
        for bed in ("front", "back"):
            code = [("tuck", bed, 3, "a"), ("tuck", bed, 2, "a"), ("tuck", bed, 5, "a")]
            self.crosses([], *code, *self.racks(20, -20, 1, 0))

    def test_transfers_cross_nothing(self):
        code = [("tuck", "front", 3, "a"), ("tuck", "front", 4, "a"), ("xfer", "front", 3), ("rack", 1),
                ("xfer", "back", 3)]
        self.crosses([], *code)
        machine = self.machine(*code)
        self.assertEqual(machine.stack("front", 4), [B, A])
        self.crosses([], *code, ("xfer", "front", 4), ("rack", -3), ("xfer", "back", 3))

    def test_carried_past_another_loop(self):
        code = [("tuck", "front", 3, "a"), ("tuck", "front", 4, "a"), ("xfer", "front", 3), ("rack", 2)]
        self.crosses([(A, B, [B])], *code)
        self.crosses([(A, B, [B])], *code, ("xfer", "back", 3), ("rack", 0))
        self.crosses([(A, B, [B, B])], *code, ("rack", 0))
        code = [("tuck", "front", 3, "a"), ("tuck", "front", 4, "a"), ("xfer", "front", 4), ("rack", -2)]
        self.crosses([(A, B, [A])], *code)

    def test_two_loops_of_a_needle_cross_each_other_one(self):
        # A and B together on the back needle 2, C and D on the front needle 5.
        code = [("tuck", "front", 2, "a"), ("tuck", "back", 1, "a"), ("rack", 1), ("xfer", "back", 1), ("rack", 0),
                ("xfer", "front", 2), ("tuck", "front", 5, "a"), ("tuck", "back", 4, "a"), ("rack", 1),
                ("xfer", "back", 4)]
        machine = self.machine(*code)
        self.assertEqual([machine.stack("back", 2), machine.stack("front", 5)], [[A, B], [C, D]])
        self.assertEqual(machine.fabric()[1], [])
        machine.step(("rack", 4))
        self.assertEqual(machine.fabric()[1], [(A, C, [C]), (A, D, [D]), (B, C, [C]), (B, D, [D])])
        machine.step(("rack", 2))
        self.assertEqual(machine.fabric()[1], [(A, C, [C] * 2), (A, D, [D] * 2), (B, C, [C] * 2), (B, D, [D] * 2)])

    def test_some_of_a_column_cross(self):
        # At the column 3 lie C, B, A from left to right; B goes to the back bed beside the two others.
        code = [("tuck", "front", 3, "a"), ("tuck", "back", 2, "a"), ("rack", 1), ("xfer", "back", 2), ("rack", 0),
                ("xfer", "front", 3), ("tuck", "front", 2, "a"), ("rack", -1)]
        machine = self.machine(*code)
        self.assertEqual([machine.stack("back", 3), machine.stack("front", 2)], [[A, B], [C]])
        machine.step(("rack", 0))
        self.assertEqual(machine.fabric()[1], [])
        machine.run([("rack", -1), ("xfer", "back", 3), ("rack", 0), ("xfer", "front", 2)])
        machine.step(("knit", "back", 2, "b"))
        self.assertEqual(machine.fabric()[0][-1], (("b", 0), "purl", [C, A, B], [C, B, A]))
        self.assertEqual(machine.fabric()[1], [])

    def test_parting_of_loops_that_lie_among_others(self):
        # A lies between B and C at the column 4, alone on its bed.
        code = [("tuck", "back", 4, "a"), ("tuck", "front", 2, "a"), ("rack", -2)]
        machine = self.machine(*code, ("xfer", "front", 2), ("rack", 0), ("tuck", "front", 6, "a"), ("rack", 2))
        self.assertEqual([machine.stack("back", 4), machine.stack("front", 6)], [[B, A], [C]])
        machine.run([("xfer", "front", 6), ("rack", 0), ("xfer", "back", 4)])
        self.assertEqual(machine.stack("front", 4), [C, B, A])
        machine.step(("knit", "front", 4, "b"))
        self.assertEqual(machine.fabric()[0][-1], (("b", 0), "knit", [C, B, A], [B, A, C]))

    def test_two_stacks_part_as_they_lay(self):
        # B left of A on the front needle, both at the column 3; a back loop comes from either side and goes on.
        both = [("tuck", "front", 3, "a"), ("tuck", "back", 2, "a"), ("rack", 1), ("xfer", "back", 2), ("rack", 0)]
        right = [*both, ("tuck", "back", 2, "a")]
        self.crosses([], *right, *self.racks(1, 0))
        self.crosses([(A, C, [A]), (B, C, [B])], *right, *self.racks(1, 2))
        left = [*both, ("tuck", "back", 4, "a")]
        self.crosses([], *left, *self.racks(-1, 0))
        self.crosses([(A, C, [A]), (B, C, [B])], *left, *self.racks(-1, -2))

    def test_one_stack_meets_another_where_it_parts_from_a_third(self):
        # At the rack 1 the back needle 3 faces the front needle 4, at the rack 0 the front needle 3, which held B.
        code = [("tuck", "front", 4, "a"), ("tuck", "front", 3, "a"), ("rack", 3), ("tuck", "back", 3, "a"),
                ("rack", 1), ("rack", 0), ("rack", -1)]
        self.crosses([], *code[:5])
        self.crosses([(A, C, [A])], *code[:6])
        self.crosses([(A, C, [A]), (B, C, [B])], *code)

    def test_only_held_loops_cross(self):
        code = [("tuck", "front", 3, "a"), ("tuck", "back", 2, "a"), ("knit", "front", 3, "b")]
        self.crosses([(B, ("b", 0), [("b", 0)])], *code, ("rack", 2))
        self.crosses([], *code, ("drop", "back", 2), ("rack", 2))
        self.crosses([], *code, ("drop", "front", 3), ("rack", 2))

    def test_a_new_loop_lies_where_it_is_made(self):
        # The loop under it came from the left; the new one is alone at its column.
        code = [("tuck", "front", 3, "a"), ("tuck", "back", 2, "a"), ("rack", 2), ("knit", "back", 2, "b")]
        self.crosses([(A, B, [A]), (A, ("b", 0), [A])], *code, ("rack", 0))

    def test_pairs_are_in_order(self):
        code = [("tuck", "front", i, "b") for i in range(3)] + [("rack", 10)] + [("tuck", "back", 0, "ab")]
        code += [("tuck", "back", i, "a") for i in (1, 2)]
        crossings = self.machine(*code, ("rack", -10)).fabric()[1]
        pairs = [(("a", k), ("b", m)) for k in range(2) for m in range(3)] + [(("ab", 0), ("b", m)) for m in range(3)]
        self.assertEqual(crossings, [(first, second, [second]) for first, second in pairs])

    def test_many_loops_of_either_bed(self):
        # One bed with one loop, the other one with several: those between cross, the others do not.
        for bed, other, way in (("front", "back", -1), ("back", "front", 1)):
            for rack in range(-20, 21):
                code = [("tuck", other, i, "a") for i in range(0, 8, 2)] + [("tuck", bed, 3, "b")]
                column = 3 + way * rack
                passed = [k for k in range(4) if (2 * k < 3) != (2 * k < column or 2 * k == column and 2 * k < 3)]
                over = (lambda k: ("a", k)) if other == "front" else (lambda k: ("b", 0))
                self.crosses([(("a", k), ("b", 0), [over(k)]) for k in passed], *code, ("rack", rack))


class CopiesTest(unittest.TestCase):
    """What a machine returned or was passed is spoilt, and its later answers stay those of another machine."""

    CODE = [("tuck", "front", 3, "a"), ("tuck", "back", 2, "a"), ("rack", 1), ("xfer", "back", 2), ("rack", 0),
            ("tuck", "back", 2, "b"), ("rack", 2), ("rack", 0), ("rack", 1), ("xfer", "front", 3), ("rack", 0),
            ("knit", "back", 2, "a"), ("tuck", "front", 5, "b"), ("rack", 4), ("drop", "front", 5), ("rack", 0)]

    def spoil(self, value):
        """Spoils a list and all lists in it."""
        if isinstance(value, (list, tuple)):
            for part in value:
                self.spoil(part)
        if isinstance(value, list):
            value.append("spoilt")
            value.reverse()
            del value[1:]

    def answers(self, machine):
        return (machine.fabric(), [machine.stack(bed, i) for bed in ("front", "back") for i in range(8)])

    def test_answers_are_spoilt(self):
        machine, other = Machine(8, 20), Machine(8, 20)
        for k, instruction in enumerate(self.CODE):
            self.spoil(self.answers(machine))
            machine.step(instruction)
            other.step(instruction)
            self.assertEqual(self.answers(machine), self.answers(other), k)
            self.spoil(self.answers(machine))
            self.assertEqual(self.answers(machine), self.answers(other), k)
        crossed = [(A, ("b", 0), [A, A]), (B, ("b", 0), [B, B]), (C, ("b", 1), [("b", 1)])]
        self.assertEqual(machine.fabric()[1], crossed)

    def test_stacks_are_spoilt_in_every_way(self):
        machine, other = Machine(8, 20), Machine(8, 20)
        machine.run(self.CODE[:4])
        other.run(self.CODE[:4])
        for spoil in (lambda stack: stack.clear(), lambda stack: stack.append(("z", 1)), lambda stack: stack.reverse(),
                      lambda stack: stack.insert(0, ("z", 1)), lambda stack: stack.extend("a"), list.sort):
            for bed in ("front", "back"):
                for i in range(8):
                    spoil(machine.stack(bed, i))
            self.assertEqual(self.answers(machine), self.answers(other))

    def test_code_is_spoilt(self):
        machine, other = Machine(8, 20), Machine(8, 20)
        code = list(self.CODE)
        machine.run(code)
        other.run(self.CODE)
        self.assertEqual(code, self.CODE)
        code.clear()
        machine.run([("rack", -5)])
        other.run([("rack", -5)])
        self.assertEqual(self.answers(machine), self.answers(other))

    def test_an_old_answer_stays(self):
        machine = Machine(8, 20)
        machine.run(self.CODE[:7])
        fabric, stack = machine.fabric(), machine.stack("front", 3)
        machine.run(self.CODE[7:])
        other = Machine(8, 20)
        other.run(self.CODE[:7])
        self.assertEqual((fabric, stack), (other.fabric(), other.stack("front", 3)))


if __name__ == "__main__":
    unittest.main()
