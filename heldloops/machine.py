"""The machine with two beds of needles, and the fabric that code makes on it."""

from heldloops.beds import OTHER_BED, Bed, faced, pairs_between
from heldloops.errors import Facing, NeedleEmpty, NeedleFull, OutOfBed, OutOfReach

SIDE_OF_BED = {"front": "knit", "back": "purl"}
NOTHING = ((), ())


class Machine:
    """A machine: what its needles hold, and what it has made so far.

    A stack is the names of its loops from front to back, and the same names from left to right.

    Stacks of two needles that face each other came to their column whole, when the rack changed last: as long as both
    hold loops, neither of them gets another one. So all of them lie as the way of the last change tells.
    """

    def __init__(self, width, reach):
        self.width = width
        self.reach = reach
        self.rack = 0
        self.done = 0
        self.way = 0
        self.beds = {"front": Bed(), "back": Bed()}
        self.made = []
        self.many = {}
        self.overs = {}
        self.dropped = []

    def run(self, code):
        """Does all instructions in order. A fault ends it, and what was done before stays."""
        for instruction in code:
            self.step(instruction)

    def step(self, instruction):
        """Does the instruction. Raises a fault if it is refused."""
        self.check(instruction)
        word = instruction[0]
        if word == "rack":
            self.change_rack(instruction[1])
        elif word == "xfer":
            self.transfer(instruction[1], instruction[2])
        elif word == "drop":
            self.drop(instruction[1], instruction[2])
        else:
            self.make(instruction)
        self.done += 1

    def check(self, instruction):
        """Raises the fault with which the instruction is refused, if it is."""
        if instruction[0] == "rack":
            if not -self.reach <= instruction[1] <= self.reach:
                raise OutOfReach(self.done)
            return
        word, bed, needle = instruction[:3]
        opposite = faced(bed, needle, self.rack)
        if not 0 <= needle < self.width or word == "xfer" and not 0 <= opposite < self.width:
            raise OutOfBed(self.done)
        holds = needle in self.beds[bed].stacks
        if word == "knit" and not holds:
            raise NeedleEmpty(self.done)
        if word == "tuck" and holds:
            raise NeedleFull(self.done)
        if word in ("knit", "tuck") and opposite in self.beds[OTHER_BED[bed]].stacks:
            raise Facing(self.done)

    def transfer(self, bed, needle):
        """Moves the loops of the needle to the needle that it faces."""
        if needle in self.beds[bed].stacks:
            moved = self.beds[bed].take(needle)
            opposite = faced(bed, needle, self.rack)
            other = self.beds[OTHER_BED[bed]]
            held = other.stacks.get(opposite, NOTHING)
            front, back = (moved, held) if bed == "front" else (held, moved)
            left, right = (back, front) if self.way > 0 else (front, back)
            other.put(opposite, (front[0] + back[0], left[1] + right[1]))

    def drop(self, bed, needle):
        """Drops the loops of the needle."""
        if needle in self.beds[bed].stacks:
            self.dropped.extend(self.beds[bed].take(needle)[0])

    def make(self, instruction):
        """Makes a loop by knit or tuck."""
        word, bed, needle, yarn = instruction
        name = (yarn, self.many.get(yarn, 0))
        self.many[yarn] = name[1] + 1
        depth, place = self.beds[bed].stacks.get(needle, NOTHING)
        self.made.append((name, SIDE_OF_BED[bed] if word == "knit" else "tuck", depth, place))
        self.beds[bed].put(needle, ((name,), (name,)))

    def change_rack(self, rack):
        """Moves the back bed. All crossings happen here."""
        if rack == self.rack:
            return
        way = 1 if rack > self.rack else -1
        # Stacks that share a column pass each other only if the back bed goes on in the way in which it came.
        start = self.rack - way if way == self.way else self.rack
        front, back = self.beds["front"].stacks, self.beds["back"].stacks
        for needle, other in self.pairs_apart(min(start, rack), max(start, rack)):
            for upper in front[needle][0]:
                for lower in back[other][0]:
                    self.cross(upper, lower)
        self.rack, self.way = rack, way

    def pairs_apart(self, low, high):
        """The pairs of front and back needles that hold loops, and would face each other between two racks."""
        if high - low < 2:
            return []
        front, back = self.beds["front"].needles, self.beds["back"].needles
        if len(front) < len(back):
            return pairs_between(front, back, -high, -low)
        return [(needle, other) for other, needle in pairs_between(back, front, low, high)]

    def cross(self, upper, lower):
        """Notes that two loops cross."""
        first, second = (upper, lower) if upper < lower else (lower, upper)
        self.overs.setdefault(first, {}).setdefault(second, []).append(upper)

    def stack(self, bed, i):
        """The names of the loops on the needle, from front to back."""
        return list(self.beds[bed].stacks.get(i, NOTHING)[0])

    def fabric(self):
        """The fabric of all that was made so far."""
        loops = [(name, side, list(depth), list(place)) for name, side, depth, place in sorted(self.made)]
        crossings = []
        for first in sorted(self.overs):
            overs = self.overs[first]
            crossings.extend([(first, second, list(overs[second])) for second in sorted(overs)])
        return (loops, crossings, self.resting(), sorted(self.dropped))

    def resting(self):
        """The columns that hold loops, from left to right."""
        columns = {}
        for needle, stack in self.beds["front"].stacks.items():
            columns[needle] = list(stack[0])
        for needle, stack in self.beds["back"].stacks.items():
            columns.setdefault(needle + self.rack, []).extend(stack[0])
        return [columns[column] for column in sorted(columns)]


def fabric_of_code(code, width, reach):
    """The fabric of the code on a new machine. Raises the fault."""
    machine = Machine(width, reach)
    machine.run(code)
    return machine.fabric()
