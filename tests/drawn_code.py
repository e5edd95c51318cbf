"""Drawn code for shortening and for reading back: holds, transfers there and back, purls by transfer, idle parts."""

import random

from slow_machine import SlowMachine

BEDS = ("front", "back")


class Drawer:
    """Draws code that runs without a fault: what the machine refuses is left out."""

    def __init__(self, source, width, reach):
        self.source, self.width, self.reach = source, width, reach
        self.machine = SlowMachine(width, reach)
        self.code = []

    def add(self, *instructions):
        for instruction in instructions:
            if self.machine.fault(instruction) is None:
                self.machine.do(instruction)
                self.code.append(instruction)

    def needle(self):
        return self.source.randrange(self.width)

    def needles(self):
        return self.source.sample(range(self.width), self.source.randint(1, 3))

    def yarn(self):
        return self.source.choice(["a", "a", "b"])

    def drawn_rack(self):
        return self.source.randint(-self.reach, self.reach)

    def rows(self):
        for needle in self.needles():
            self.add((self.source.choice(["tuck", "knit"]), self.source.choice(BEDS), needle, self.yarn()))

    def purls(self):
        needles = self.needles()
        self.add(("rack", 0))
        if self.source.random() < 0.5:
            for needle in needles:
                self.purl(needle)
        else:
            self.add(*[("xfer", "front", needle) for needle in needles])
            self.add(*[("knit", "back", needle, self.yarn()) for needle in needles])
            self.add(*[("xfer", "back", needle) for needle in needles])

    def purl(self, needle):
        self.add(("xfer", "front", needle), ("knit", "back", needle, self.yarn()), ("xfer", "back", needle))

    def home(self):
        """Brings all loops to the front bed, each as it lies."""
        self.add(("rack", 0), *[("xfer", "back", needle) for needle in range(self.width)])

    def holds(self):
        """One or several holds by the same racks."""
        if self.source.random() < 0.7:
            self.home()
        racks = self.drawn_rack(), self.drawn_rack()
        for _ in range(self.source.randint(1, 3)):
            needles = self.needles()
            if self.source.random() < 0.7:
                needles = [needle for needle in needles if self.machine.held["front", needle]]
            self.add(("rack", racks[0]), *[("xfer", "front", needle) for needle in needles])
            self.add(("rack", racks[1]), *[("xfer", "back", needle - racks[0]) for needle in needles])

    def there_and_back(self):
        bed, needle = self.source.choice(BEDS), self.needle()
        other, opposite = self.machine.opposite(bed, needle)
        for _ in range(self.source.randint(1, 2)):
            self.add(("xfer", bed, needle))
            if self.source.random() < 0.5:
                self.there_and_back_of_one()
            self.add(("xfer", other, opposite))

    def there_and_back_of_one(self):
        bed, needle = self.source.choice(BEDS), self.needle()
        self.add(("xfer", bed, needle), ("xfer",) + self.machine.opposite(bed, needle))

    def racks(self):
        racks = [self.drawn_rack() for _ in range(self.source.randint(1, 4))]
        self.add(*[("rack", rack) for rack in racks])
        if self.source.random() < 0.3:
            self.add(("rack", racks[-1]))

    def idle(self):
        for needle in self.needles():
            self.add((self.source.choice(["xfer", "xfer", "drop"]), self.source.choice(BEDS), needle))

    def crossing(self):
        """Two loops that meet, and pass each other or part again, there and back."""
        needle = self.needle()
        self.add(("rack", 0), ("tuck", "front", needle, "a"), ("tuck", "back", self.needle(), "b"))
        self.racks()


def drawn_code(source, width, reach, blocks):
    drawer = Drawer(source, width, reach)
    kinds = [drawer.rows, drawer.purls, drawer.holds, drawer.there_and_back, drawer.racks, drawer.idle, drawer.crossing]
    drawer.rows()
    for _ in range(blocks):
        source.choice(kinds)()
    if source.random() < 0.3:
        drawer.home()
    return drawer.code


def drawn_codes(seed, many, blocks=10):
    """Code with the width and the reach of its machine, of 4 to 9 needles and a reach of 1 to 4."""
    source = random.Random(seed)
    for _ in range(many):
        width, reach = source.randint(4, 9), source.randint(1, 4)
        yield drawn_code(source, width, reach, source.randint(1, blocks)), width, reach
