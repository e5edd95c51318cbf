"""Stacks put on the front bed of the slow machine, and code that moves them there."""

import random
import unittest

from slow_machine import SlowMachine


def stacks_of(sizes, seed=0):
    """The stacks of needles with as many loops as told, as (from front to back, from left to right): drawn orders."""
    source = random.Random(f"{seed} {sorted(sizes.items())}")
    stacks = {}
    for needle, many in sorted((needle, many) for needle, many in sizes.items() if many > 0):
        names = [("s", 100 * needle + k) for k in range(many)]
        source.shuffle(names)
        stacks[needle] = (tuple(names), tuple(source.sample(names, many)))
    return stacks


def loaded(stacks, width, reach, rack):
    """A slow machine that holds these stacks on its front bed, at this rack."""
    machine = SlowMachine(width, reach)
    machine.rack = rack
    for needle, (depth, place) in stacks.items():
        machine.held["front", needle] = list(depth)
        machine.lies_left.update({(a, b): place.index(a) < place.index(b) for a in place for b in place if a != b})
    machine.look()
    return machine


class MovingTest(unittest.TestCase):

    def check_move(self, code, stacks, expected, bounds, width, reach, crossed=()):
        """Runs the code at each rack (or at two, if that takes long), and compares what can be seen behind it."""
        racks = range(-reach, reach + 1)
        if reach >= 4 or len(stacks) >= 8:
            # Code that begins with a rack, while no loop is on the back bed, goes on alike whatever the rack was.
            self.assertIn([part[0] for part in code[:1]], ([], ["rack"]))
            racks = (-reach, 1)
        for rack in racks:
            machine = loaded(stacks, width, reach, rack)
            for instruction in code:
                self.assertIsNone(machine.fault(instruction), instruction)
                if instruction[0] != "rack":
                    self.assertEqual(instruction[0], "xfer")
                    for _, needle in (instruction[1:], machine.opposite(*instruction[1:])):
                        self.assertTrue(bounds[0] <= needle <= bounds[1], instruction)
                machine.do(instruction)
            held = {at: tuple(stack) for at, stack in machine.held.items() if stack}
            self.assertEqual(held, {("front", needle): depth for needle, (depth, _) in expected.items()})
            self.assertEqual(sorted(machine.crossed), sorted(crossed))
            self.check_places(machine, expected)

    def check_places(self, machine, expected):
        """Draws a loop through each stack."""
        for needle, (depth, place) in expected.items():
            machine.do(("knit", "front", needle, "z"))
            self.assertEqual(machine.loops[-1][2:], (list(depth), list(place)))
