"""shorten: what each pass leaves, when it is named alone (point 29), and what it takes out."""

import random
import unittest

from drawn_code import Drawer, drawn_codes
from heldloops.codes import cost, read_code, write_code
from heldloops.machine import fabric_of_code
from heldloops.shortening import shorten
from slow_machine import SlowMachine, random_codes
from test_shorten import compiled_charts, slow_fabric_of_code


def states(code, width, reach):
    """Each instruction with the slow machine ahead of it."""
    machine = SlowMachine(width, reach)
    for instruction in code:
        yield instruction, machine
        machine.do(instruction)


def is_back_free(machine):
    return not any(stack for at, stack in machine.held.items() if at[0] == "back")


class PassTest(unittest.TestCase):

    def codes(self, seed):
        yield from drawn_codes(seed, 250)
        yield from random_codes(seed, 150, 30)
        yield from compiled_charts(seed, 25)

    def shortened(self, text, name, width=9, reach=4):
        """The text of the code that the pass leaves of this text; its fabric is the same."""
        code = read_code(text.strip().replace(", ", "\n"))
        short = shorten(code, width, reach, [name])
        self.assertEqual(fabric_of_code(short, width, reach), fabric_of_code(code, width, reach))
        self.assertLessEqual(cost(short), cost(code))
        return write_code(short).replace("\n", ", ")

    def check(self, name, text, expected):
        self.assertEqual(self.shortened(text, name), expected)

    def stays(self, name, text):
        self.check(name, text, text)


class IdleTest(PassTest):

    def test_what_is_left(self):
        for code, width, reach in self.codes(81):
            for instruction, machine in states(shorten(code, width, reach, ["idle"]), width, reach):
                if instruction[0] in ("xfer", "drop"):
                    self.assertNotEqual(machine.held[instruction[1:]], [])

    def test_nothing_else_goes(self):
        for code, width, reach in self.codes(82):
            used = [instruction for instruction, machine in states(code, width, reach)
                    if instruction[0] not in ("xfer", "drop") or machine.held[instruction[1:]]]
            self.assertEqual(shorten(code, width, reach, ["idle"]), used)

    def test_examples(self):
        self.check("idle", "xfer front 1, drop back 3, drop front 0", "")
        self.check("idle", "tuck front 1 a, xfer front 1, xfer front 1, xfer back 1, xfer back 1, drop back 1",
                   "tuck front 1 a, xfer front 1, xfer back 1")
        self.check("idle", "tuck front 1 a, drop front 1, drop front 1, xfer front 1", "tuck front 1 a, drop front 1")
        self.check("idle", "tuck back 1 a, rack 2, xfer front 2, xfer back 1, xfer back 1, rack 2, drop back 1",
                   "tuck back 1 a, rack 2, xfer back 1, rack 2")


class RacksTest(PassTest):

    def test_what_is_left(self):
        for code, width, reach in self.codes(83):
            short = shorten(code, width, reach, ["racks"])
            following = short[1:] + [("rack", None)]
            for (instruction, machine), after in zip(states(short, width, reach), following):
                if instruction[0] == "rack":
                    self.assertNotEqual(instruction[1], machine.rack)
                    if is_back_free(machine):
                        self.assertNotEqual(after[0], "rack")

    def test_only_racks_go(self):
        for code, width, reach in self.codes(84):
            others = [instruction for instruction in code if instruction[0] != "rack"]
            short = shorten(code, width, reach, ["racks"])
            self.assertEqual([instruction for instruction in short if instruction[0] != "rack"], others)

    def test_nothing_on_the_back_bed(self):
        self.check("racks", "rack 0, rack 1, rack -1", "")
        self.check("racks", "rack 1, rack 0, tuck front 2 a, rack 3, rack 1, rack 3, xfer front 4, rack 2",
                   "tuck front 2 a, rack 3, xfer front 4")
        self.check("racks", "tuck front 2 a, rack 1, rack 2, rack 0, xfer front 2, xfer back 2, rack 4",
                   "tuck front 2 a, xfer front 2, xfer back 2")
        self.check("racks", "rack 2, tuck front 1 a, rack 2, tuck front 3 a, rack 2",
                   "rack 2, tuck front 1 a, tuck front 3 a")

    def test_loops_on_the_back_bed(self):
        self.stays("racks", "tuck front 3 a, tuck back 2 a, rack 2, rack 0")
        self.stays("racks", "tuck front 3 a, tuck back 2 a, rack 4, rack -1, rack 2")
        self.check("racks", "tuck front 3 a, tuck back 2 a, rack 0, rack 2, rack 2", "tuck front 3 a, tuck back 2 a, rack 2")

    def test_racks_that_go_on_in_one_direction(self):
        self.check("racks", "tuck front 3 a, tuck back 2 a, rack 1, rack 2, rack 4, rack 3, rack -1",
                   "tuck front 3 a, tuck back 2 a, rack 4, rack -1")
        self.check("racks", "tuck back 2 a, rack -1, rack -4, xfer back 6, rack -2, rack 1",
                   "tuck back 2 a, rack -4, xfer back 6, rack 1")


class ReturnsTest(PassTest):

    def test_what_is_left(self):
        for code, width, reach in self.codes(85):
            short = shorten(code, width, reach, ["returns"])
            for (instruction, machine), after in zip(states(short, width, reach), short[1:]):
                if instruction[0] == "xfer" and machine.held[machine.opposite(*instruction[1:])] == []:
                    self.assertNotEqual(after, ("xfer",) + machine.opposite(*instruction[1:]))

    def test_examples(self):
        self.check("returns", "tuck front 3 a, xfer front 3, xfer back 3", "tuck front 3 a")
        self.check("returns", "rack 2, tuck back 1 a, xfer back 1, xfer front 3, xfer back 1",
                   "rack 2, tuck back 1 a, xfer back 1")
        self.check("returns", "xfer front 1, xfer back 1", "")
        self.stays("returns", "tuck front 3 a, xfer front 3, knit back 3 a, xfer back 3")
        self.stays("returns", "tuck front 3 a, xfer front 3, rack 1, xfer back 3")
        self.stays("returns", "tuck front 3 a, tuck front 4 a, xfer front 3, xfer front 4, xfer back 3")

    def test_needles_that_held_loops(self):
        self.stays("returns", "tuck front 3 a, tuck back 2 a, rack 1, xfer front 3, xfer back 2")
        # The last two alone return: behind the first one the back needle holds both loops.
        self.check("returns", "tuck front 3 a, tuck back 2 a, rack 1, xfer front 3, xfer back 2, xfer front 3",
                   "tuck front 3 a, tuck back 2 a, rack 1, xfer front 3")

    def test_removals_that_bring_others_together(self):
        self.check("returns", "tuck front 3 a, tuck front 4 b, xfer front 3, xfer front 4, xfer back 4, xfer back 3",
                   "tuck front 3 a, tuck front 4 b")
        tucks = ", ".join([f"tuck front {k} a" for k in range(6)])
        inner = "xfer front 8, xfer back 8"
        for k in range(6):
            inner = f"xfer front {k}, {inner}, {inner}, xfer back {k}"
        self.check("returns", f"{tucks}, {inner}, xfer front 4", f"{tucks}, xfer front 4")


class PurlsTest(PassTest):

    def test_columns_that_stay_on_the_back_bed(self):
        self.check("purls", "tuck front 1 a, tuck front 3 a, xfer front 1, xfer front 3, knit back 1 a, knit back 3 a, "
                            "xfer back 1, xfer back 3, xfer front 1, xfer front 3, knit back 3 a, knit back 1 a, "
                            "xfer back 1, xfer back 3",
                   "tuck front 1 a, tuck front 3 a, xfer front 1, xfer front 3, knit back 1 a, knit back 3 a, "
                   "knit back 3 a, knit back 1 a, xfer back 1, xfer back 3")

    def test_other_columns_in_between(self):
        self.check("purls", "tuck front 1 a, tuck front 2 b, xfer front 1, knit front 2 a, drop front 2, rack 0, xfer back 1",
                   "tuck front 1 a, tuck front 2 b, knit front 2 a, drop front 2, rack 0")

    def test_what_must_stay(self):
        self.stays("purls", "tuck front 1 a, xfer front 1, rack 1, rack 0, xfer back 1")
        self.stays("purls", "tuck front 1 a, xfer front 1, knit back 1 a, xfer back 1")
        self.stays("purls", "tuck front 1 a, xfer front 1, xfer front 1, xfer back 1")
        self.stays("purls", "tuck front 1 a, xfer front 1, drop front 1, xfer back 1")
        self.stays("purls", "tuck front 2 a, tuck back 1 a, rack 1, xfer front 2, tuck front 5 a, xfer back 1")


class HoldsTest(PassTest):

    def test_holds_that_go_as_one(self):
        self.check("holds", "tuck front 3 a, tuck front 6 a, rack 1, xfer front 3, rack -1, xfer back 2, "
                            "rack 1, xfer front 6, rack -1, xfer back 5",
                   "tuck front 3 a, tuck front 6 a, rack 1, xfer front 3, xfer front 6, rack -1, xfer back 2, xfer back 5")
        self.check("holds", "tuck front 1 a, tuck front 2 a, xfer front 2, rack 1, xfer back 2, "
                            "rack 0, xfer front 1, rack 1, xfer back 1, knit front 3 a",
                   "tuck front 1 a, tuck front 2 a, xfer front 2, xfer front 1, rack 1, xfer back 2, xfer back 1, "
                   "knit front 3 a")

    def test_three_holds(self):
        tucks = "tuck front 2 a, tuck front 4 a, tuck front 6 a, "
        holds = ", ".join([f"rack 1, xfer front {i}, rack 0, xfer back {i - 1}" for i in (2, 4, 6)])
        self.check("holds", tucks + holds, tucks + "rack 1, xfer front 2, xfer front 4, xfer front 6, "
                                                   "rack 0, xfer back 1, xfer back 3, xfer back 5")

    def test_loops_of_others_that_are_passed_or_met(self):
        # The loop of the needle 1 comes to lie behind another one, passes it, or passes the second loop, too.
        tucks = "tuck front 1 a, tuck front 4 a, tuck front 2 b, "
        for rack, joined in ((1, True), (2, True), (3, False), (4, False), (-1, True)):
            code = tucks + ", ".join([f"rack 0, xfer front {i}, rack {rack}, xfer back {i}" for i in (1, 4)])
            self.assertEqual(self.shortened(code, "holds").count("rack"), 2 if joined else 4)

    def test_one_way_in_two_steps(self):
        self.stays("holds", "tuck front 1 a, rack 0, xfer front 1, rack 1, xfer back 1, "
                            "rack 0, xfer front 2, rack 1, xfer back 2")

    def test_stacks_that_pass_or_meet_one_another(self):
        start = "tuck front 3 a, tuck front 4 a, "
        self.stays("holds", start + "xfer front 3, rack 2, xfer back 3, rack 0, xfer front 4, rack 2, xfer back 4")
        self.stays("holds", start + "xfer front 3, rack 1, xfer back 3, rack 0, xfer front 4, rack 1, xfer back 4")
        self.stays("holds", start + "rack 1, xfer front 4, rack -1, xfer back 3, rack 1, xfer front 3, rack -1, xfer back 2")

    def test_drawn_holds(self):
        source = random.Random(86)
        joined = 0
        for _ in range(300):
            drawer = Drawer(source, source.randint(4, 10), source.randint(1, 5))
            drawer.add(*[("tuck", "front", i, drawer.yarn()) for i in range(drawer.width) if source.random() < 0.6])
            for _ in range(3):
                drawer.holds()
            drawer.home()
            drawer.add(*[("knit", "front", i, "c") for i in range(drawer.width)])
            short = shorten(drawer.code, drawer.width, drawer.reach, ["holds"])
            fabric = slow_fabric_of_code(short, drawer.width, drawer.reach)
            self.assertEqual(fabric, slow_fabric_of_code(drawer.code, drawer.width, drawer.reach))
            self.assertLessEqual(cost(short), cost(drawer.code))
            joined += len(short) < len(drawer.code)
        self.assertGreater(joined, 30)

    def test_loops_that_stay_on_the_back_bed(self):
        self.stays("holds", "tuck front 3 a, tuck front 6 a, tuck back 8 a, rack 1, xfer front 3, rack -1, xfer back 2, "
                            "rack 1, xfer front 6, rack -1, xfer back 5")


if __name__ == "__main__":
    unittest.main()
