"""Holds in code: stacks of loops that go at once from front needles to others."""

from heldloops.beds import first_from


class Hold:
    """Stacks that go at once: xfers of front needles at one rack, and xfers of back needles at the next one.

    Ahead of it no back needle holds loops. What comes ahead of the xfers leads to the first rack.
    """

    def __init__(self, ahead, there, racks, back):
        self.ahead = ahead
        self.there = there
        self.racks = racks
        self.back = back
        self.needles = sorted([needle for _, _, needle in there])

    def code(self):
        """The code of the hold."""
        return self.ahead + self.there + [("rack", self.racks[1])] + self.back

    def takes_up(self, other):
        """Whether the stacks of another hold, which is done next, may go together with these.

        They may if they do not stand on the ways of these: then the stacks of the two holds do not pass each other,
        whether they go at once or not, and all others stand where they stood.
        """
        if self.racks != other.racks:
            return False
        way = self.racks[1] - self.racks[0]
        for needle in other.needles:
            at = first_from(self.needles, min(needle, needle - way))
            if at < len(self.needles) and self.needles[at] <= max(needle, needle - way):
                return False
        return True

    def joined(self, other):
        """Both holds done as one."""
        return Hold(self.ahead, self.there + other.there, self.racks, self.back + other.back)


def hold_at(code, at, occupied):
    """The hold that begins at this index of the code, or None."""
    start = at + 1 if code[at][0] == "rack" else at
    first_rack = code[at][1] if start > at else occupied.rack
    # One that begins with an idle xfer would be looked for again behind it: that takes long where there are many.
    if not occupied.is_back_free() or not is_used_transfer(code, start, occupied):
        return None
    middle = end_of_transfers(code, start, "front")
    if middle == len(code) or code[middle][0] != "rack":
        return None
    end = end_of_transfers(code, middle + 1, "back")
    return Hold(code[at:start], code[start:middle], (first_rack, code[middle][1]), code[middle + 1:end])


def is_used_transfer(code, at, occupied):
    """Whether the code has an xfer of a front needle at this index, and the needle holds loops."""
    return at < len(code) and code[at][:2] == ("xfer", "front") and occupied.holds("front", code[at][2])


def end_of_transfers(code, start, bed):
    """The index behind the xfers of this bed that begin at this one."""
    end = start
    while end < len(code) and code[end][:2] == ("xfer", bed):
        end += 1
    return end
