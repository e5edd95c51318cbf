"""Which needles hold loops while code is done."""

from heldloops.beds import OTHER_BED, faced


class Occupied:
    """The rack, and the needles of each bed that hold loops, while code is done that runs without a fault."""

    def __init__(self):
        self.rack = 0
        self.needles = {"front": {}, "back": {}}

    def holds(self, bed, needle):
        """Whether the needle holds loops."""
        return needle in self.needles[bed]

    def is_back_free(self):
        """Whether no back needle holds loops."""
        return not self.needles["back"]

    def do(self, instruction):
        """Does the instruction."""
        word = instruction[0]
        if word == "rack":
            self.rack = instruction[1]
            return
        bed, needle = instruction[1:3]
        if word in ("knit", "tuck"):
            self.needles[bed][needle] = True
        elif needle in self.needles[bed]:
            del self.needles[bed][needle]
            if word == "xfer":
                self.needles[OTHER_BED[bed]][faced(bed, needle, self.rack)] = True

    def way_back(self, instruction):
        """The instruction that would take this one back at the same rack; None if none would, whatever it moves."""
        if instruction[0] != "xfer":
            return None
        _, bed, needle = instruction
        other, opposite = OTHER_BED[bed], faced(bed, needle, self.rack)
        return None if self.holds(other, opposite) else ("xfer", other, opposite)
