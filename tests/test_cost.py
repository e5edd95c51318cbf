"""cost: the passes of the carriage (point 28)."""

import random
import unittest

from heldloops.codes import cost
from slow_machine import random_codes


def xfer(bed, *needles):
    return [("xfer", bed, i) for i in needles]


def drop(bed, *needles):
    return [("drop", bed, i) for i in needles]


def knit(bed, *needles, yarn="a"):
    return [("knit", bed, i, yarn) for i in needles]


def tuck(bed, *needles, yarn="a"):
    return [("tuck", bed, i, yarn) for i in needles]


class CostTest(unittest.TestCase):

    def costs(self, passes, *parts):
        self.assertEqual(cost([instruction for part in parts for instruction in part]), passes)

    def test_empty_code(self):
        self.assertEqual(cost([]), 0)

    def test_one_instruction(self):
        for instruction in (("rack", 0), ("rack", -5), ("xfer", "front", 0), ("knit", "back", 3, "a"),
                            ("tuck", "front", 9, "a"), ("drop", "back", 0)):
            self.assertEqual(cost([instruction]), 1)

    def test_racks_are_single(self):
        self.costs(3, [("rack", 1), ("rack", 2), ("rack", 3)])
        self.costs(2, [("rack", 0), ("rack", 0)])
        self.costs(5, xfer("front", 1, 2), [("rack", 1)], xfer("front", 3), [("rack", 1)], xfer("front", 4))

    def test_one_kind_that_ascends_or_descends(self):
        for stretch in (xfer, drop, knit, tuck):
            for bed in ("front", "back"):
                self.costs(1, stretch(bed, 0, 1, 2, 3))
                self.costs(1, stretch(bed, 3, 7, 90))
                self.costs(1, stretch(bed, 3, 2, 1, 0))
                self.costs(1, stretch(bed, 90, 7, 3))
                self.costs(1, stretch(bed, 4, 5))
                self.costs(1, stretch(bed, 5, 4))

    def test_equal_needles(self):
        for stretch in (xfer, drop, knit, tuck):
            self.costs(2, stretch("front", 3, 3))
            self.costs(3, stretch("front", 3, 3, 3))
            self.costs(2, stretch("front", 1, 2, 2, 3))
            self.costs(2, stretch("front", 3, 2, 2, 3))
            self.costs(2, stretch("back", 2, 3, 3, 1))

    def test_turns(self):
        for stretch in (xfer, drop, knit, tuck):
            self.costs(2, stretch("back", 1, 2, 3, 2))
            self.costs(2, stretch("back", 1, 2, 3, 2, 1, 0))
            self.costs(2, stretch("back", 3, 2, 1, 2, 3))
            self.costs(2, stretch("back", 1, 2, 1, 2))
            self.costs(3, stretch("back", 1, 2, 1, 2, 1))
            self.costs(3, stretch("back", 1, 2, 1, 2, 1, 0))
            self.costs(3, stretch("back", 1, 3, 2, 1, 4, 5))

    def test_beds(self):
        for stretch in (xfer, drop):
            self.costs(2, stretch("front", 1, 2), stretch("back", 3, 4))
            self.costs(4, stretch("front", 1), stretch("back", 2), stretch("front", 3), stretch("back", 4))
        for stretch in (knit, tuck):
            self.costs(1, stretch("front", 1, 2), stretch("back", 3, 4))
            self.costs(1, stretch("front", 4), stretch("back", 3), stretch("front", 2), stretch("back", 1))
            self.costs(2, stretch("front", 1), stretch("back", 1))

    def test_knits_and_tucks_are_mixed(self):
        self.costs(1, knit("front", 1), tuck("back", 2), knit("back", 3, yarn="b"), tuck("front", 4), tuck("front", 5))
        self.costs(1, tuck("front", 9), knit("back", 8, 5), tuck("back", 2))
        self.costs(2, tuck("front", 9), knit("back", 8, 5), tuck("back", 6))
        self.costs(2, tuck("front", 9), knit("front", 9))

    def test_other_kinds_are_not_mixed(self):
        self.costs(2, xfer("front", 1), drop("front", 2))
        self.costs(2, knit("front", 1), drop("front", 2))
        self.costs(2, xfer("front", 1), tuck("front", 2))
        self.costs(3, knit("front", 1), xfer("front", 2), knit("front", 3))
        self.costs(2, [("rack", 5)], knit("front", 9))

    def test_a_new_stretch_may_turn(self):
        self.costs(2, xfer("front", 1, 2, 3), knit("front", 2, 1))
        self.costs(2, xfer("front", 1, 2, 3), xfer("back", 2, 1))
        self.costs(3, xfer("front", 1, 2, 3), [("rack", 0)], xfer("front", 4, 1))

    def test_against_the_words(self):
        for code, _, _ in random_codes(61, 100, 40):
            self.assertEqual(cost(code), slow_cost(code))
        source = random.Random(62)
        kinds = [("xfer", "front"), ("xfer", "back"), ("drop", "front"), ("drop", "back"), ("knit", "front"),
                 ("tuck", "back"), ("rack",)]
        for _ in range(500):
            chosen = source.sample(kinds, source.randint(1, 4))
            code = [source.choice(chosen) + (source.randint(0, 3), "a") for _ in range(source.randint(0, 20))]
            code = [part[:3] if part[0] in ("xfer", "drop") else part[:2] if part[0] == "rack" else part for part in code]
            self.assertEqual(cost(code), slow_cost(code), code)


def is_pass(stretch):
    """Whether the stretch is one pass."""
    words = {instruction[0] for instruction in stretch}
    beds = {instruction[1] for instruction in stretch}
    if "rack" in words:
        return len(stretch) == 1
    if not words <= {"knit", "tuck"} and (len(words) > 1 or len(beds) > 1):
        return False
    needles = [instruction[2] for instruction in stretch]
    return needles in (sorted(set(needles)), sorted(set(needles), reverse=True))


def slow_cost(code):
    """The cost, by the longest stretch from the beginning, and then from behind it."""
    if not code:
        return 0
    longest = max(k for k in range(1, len(code) + 1) if is_pass(code[:k]))
    return 1 + slow_cost(code[longest:])


if __name__ == "__main__":
    unittest.main()
