"""A slow machine that shares nothing with the program, and code for the tests.

It looks at each two loops that are held, behind each instruction.
"""

import functools
import random

OTHER = {"front": "back", "back": "front"}


class SlowMachine:

    def __init__(self, width, reach):
        self.width, self.reach, self.rack, self.done = width, reach, 0, 0
        self.held = {(bed, i): [] for bed in OTHER for i in range(width)}
        self.loops, self.dropped, self.lies_left, self.crossed = [], [], {}, []

    def fault(self, instruction):
        """The name of the fault with which the instruction is refused, or None."""
        word = instruction[0]
        if word == "rack":
            return "OutOfReach" if abs(instruction[1]) > self.reach else None
        at = instruction[1:3]
        if at not in self.held or word == "xfer" and self.opposite(*at) not in self.held:
            return "OutOfBed"
        if word == "knit" and self.held[at] == []:
            return "NeedleEmpty"
        if word == "tuck" and self.held[at] != []:
            return "NeedleFull"
        if word in ("knit", "tuck") and self.held.get(self.opposite(*at), []) != []:
            return "Facing"
        return None

    def opposite(self, bed, i):
        return (OTHER[bed], i + self.rack if bed == "back" else i - self.rack)

    def column(self, bed, i):
        return i + self.rack if bed == "back" else i

    def do(self, instruction):
        """Does an instruction that is not refused."""
        word, at = instruction[0], instruction[1:3]
        if word == "rack":
            self.rack = instruction[1]
        elif word == "drop":
            self.dropped += self.held[at]
            self.held[at] = []
        elif word == "xfer":
            moved, to = self.held[at], self.opposite(*at)
            self.held[at] = []
            self.held[to] = moved + self.held[to] if at[0] == "front" else self.held[to] + moved
        else:
            name = (instruction[3], sum(loop[0][0] == instruction[3] for loop in self.loops))
            depth = self.held[at]
            side = "tuck" if word == "tuck" else {"front": "knit", "back": "purl"}[at[0]]
            self.loops.append((name, side, depth, sorted(depth, key=functools.cmp_to_key(self.compare))))
            self.held[at] = [name]
        self.done += 1
        self.look()

    def compare(self, name, other):
        return -1 if self.lies_left[name, other] else 1

    def look(self):
        """Compares the columns of each two loops with those behind the last instruction."""
        places = [(name, at) for at in self.held for name in self.held[at]]
        for name, at in places:
            for other, place in places:
                if self.column(*at) != self.column(*place):
                    left = self.column(*at) < self.column(*place)
                    if name < other and self.lies_left.get((name, other), left) != left:
                        assert at[0] != place[0]
                        self.crossed.append((name, other, name if at[0] == "front" else other))
                    self.lies_left[name, other] = left

    def fabric(self):
        pairs = sorted({crossing[:2] for crossing in self.crossed})
        crossings = [(a, b, [over for c, d, over in self.crossed if (a, b) == (c, d)]) for a, b in pairs]
        columns = []
        for column in range(-2 * self.width - self.reach, 2 * self.width + self.reach):
            front = self.held.get(("front", column), [])
            back = self.held.get(("back", column - self.rack), [])
            if front + back:
                columns.append(front + back)
        return (sorted(self.loops), crossings, columns, sorted(self.dropped))


def random_codes(seed, many, length, faults=0.0, wide=False):
    """Code with the width and the reach of its machine. A fault is left in it with the told likelihood."""
    source = random.Random(seed)
    for _ in range(many):
        width, reach = source.randint(1, 6), source.randint(0, 5)
        if wide:
            width, reach = 3 * width + 7, 4 * reach + 3
        yield random_code(source, width, reach, length, faults), width, reach


def random_code(source, width, reach, length, faults):
    machine = SlowMachine(width, reach)
    code = []
    kinds = ["rack"] * source.randint(1, 8) + ["xfer"] * source.randint(1, 8) + ["tuck"] * 6 + ["knit", "drop"]
    kinds += ["knit"] * source.randint(0, 3)
    while len(code) < length:
        instruction = random_instruction(source, source.choice(kinds), width, reach)
        refused = machine.fault(instruction)
        if refused is None or source.random() < faults:
            code.append(instruction)
        if refused is None:
            machine.do(instruction)
    return code


def random_instruction(source, word, width, reach):
    if word == "rack":
        return (word, source.randint(-reach - 1, reach + 1))
    place = (source.choice(["front", "back"]), source.randint(-1, width))
    if word in ("xfer", "drop"):
        return (word,) + place
    return (word,) + place + (source.choice(["a", "ab", "b"]),)
