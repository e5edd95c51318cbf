"""Reading code back: a chart with the fabric of the code."""

from heldloops.beds import first_from
from heldloops.charts import MOST_JOINED
from heldloops.errors import NoChart
from heldloops.machine import Machine

PASS = ("pass",)
DROP = ("drop",)


def chart_of_code(code, width, reach):
    """A chart whose fabric is the fabric of the code. Raises the fault of a refused instruction, or NoChart."""
    machine = ReadMachine(width, reach)
    machine.run(code)
    if any(len(column) > 1 for column in machine.resting()):
        raise NoChart(machine.done)
    machine.writer.end_line()
    return list(machine.writer.chart)


class ReadMachine(Machine):
    """A machine of which a chart is written while it runs."""

    def __init__(self, width, reach):
        super().__init__(width, reach)
        self.writer = ChartWriter()
        self.passed = {}

    def make(self, instruction):
        """Makes a loop by knit or tuck. Raises NoChart if no command draws it like this."""
        super().make(instruction)
        name, side, depth, place = self.made[-1]
        if side == "tuck":
            _, bed, needle, _ = instruction
            self.writer.tuck(name, self.left_of(needle + self.shift(bed)))
        else:
            if len(place) > MOST_JOINED or depth not in (place, place[::-1]):
                raise NoChart(self.done)
            self.writer.draw(name, drawing(name[0], side, depth, place), place)

    def drop(self, bed, needle):
        """Drops the loops of the needle."""
        self.writer.drop(self.stack(bed, needle))
        super().drop(bed, needle)

    def change_rack(self, rack):
        """Moves the back bed."""
        rightward = rack > self.rack
        super().change_rack(rack)
        if self.passed:
            self.writer.cross(self.passed, rightward)
            self.passed = {}

    def cross(self, upper, lower):
        """Counts the loops of the back bed that pass this one of the front bed."""
        self.passed[upper] = self.passed.get(upper, 0) + 1

    def shift(self, bed):
        """How far the columns of the bed lie to the right of its needles."""
        return self.rack if bed == "back" else 0

    def left_of(self, column):
        """The loop next to the column on its left, or None."""
        found = None
        # Where both beds hold loops of one column, the bed that came last from the left lies on the left.
        for bed in ("back", "front") if self.way > 0 else ("front", "back"):
            needles, shift = self.beds[bed].needles, self.shift(bed)
            at = first_from(needles, column - shift) - 1
            if at >= 0 and (found is None or needles[at] + shift >= found[0]):
                found = (needles[at] + shift, self.beds[bed].stacks[needles[at]][1][-1])
        return None if found is None else found[1]


def drawing(yarn, side, depth, place):
    """The command that draws a loop of the yarn through loops of this depth and place."""
    if len(place) == 1:
        return (side, yarn)
    return ("join", len(place), "left" if depth == place else "right", side, yarn)


class ChartWriter:
    """Writes a chart of loops that are made, dropped and crossed one after the other.

    As long as the commands fit, they stand in one line, which is not written before it ends: the row still has the
    loops that this line drops, and already those that it makes.
    """

    def __init__(self):
        self.chart = []
        self.row = []
        self.told = {}
        self.latest = {}
        self.direction = None
        self.near = 0

    def tuck(self, name, left):
        """Makes a tuck behind a loop of the row, or ahead of all of them if that is None."""
        at = self.behind(left)
        if not self.keeps_direction(name, at):
            self.end_line()
            at = self.behind(left)
        self.put(name, ("tuck", name[0]), at, at)

    def draw(self, name, command, loops):
        """Draws a loop through these, which lie side by side but for dropped ones."""
        at = self.place_of(loops[0])
        if self.is_told(loops) or self.row[at:at + len(loops)] != list(loops) or not self.keeps_direction(name, at):
            self.end_line()
            at = self.place_of(loops[0])
        self.put(name, command, at, at + len(loops))

    def drop(self, loops):
        """Drops these loops."""
        if self.is_told(loops):
            self.end_line()
        for name in loops:
            self.told[name] = DROP

    def cross(self, passed, rightward):
        """Lets loops of the back bed pass, all in one direction, as many as are told for each loop of the front bed."""
        self.end_line()
        # Each of the front loops has the back loops beside it when those that they pass earlier are done.
        places = sorted([(self.place_of(name), many) for name, many in passed.items()])
        if rightward:
            for at, many in places:
                for column in range(at - 1, at - 1 - many, -1):
                    self.exchange(column, "right")
        else:
            for at, many in places[::-1]:
                for column in range(at, at + many):
                    self.exchange(column, "left")

    def exchange(self, column, over):
        """Exchanges the loops of this column and of the next one."""
        self.row[column], self.row[column + 1] = self.row[column + 1], self.row[column]
        if not self.chart or self.chart[-1][0] != "move":
            self.chart.append(("move", []))
        self.chart[-1][1].append((column, over))

    def end_line(self):
        """Writes the work line that is under way."""
        if self.told:
            commands = [self.told.get(name, PASS) for name in self.row]
            self.chart.append(("work", self.direction or "right", commands))
            self.row = [name for name in self.row if self.told.get(name) != DROP]
            self.told = {}
            self.latest = {}
            self.direction = None

    def put(self, name, command, start, end):
        """Puts the loop that the command makes at the place of these columns."""
        if self.direction is None:
            self.direction = self.direction_to(name, start)
        self.row[start:end] = [name]
        self.told[name] = command
        self.latest[name[0]] = name

    def is_told(self, loops):
        """Whether the line under way makes one of these loops."""
        return any(name in self.told for name in loops)

    def keeps_direction(self, name, at):
        """Whether a loop that is made there as the next one keeps the direction of the line."""
        direction = self.direction_to(name, at)
        return direction is None or self.direction is None or direction == self.direction

    def direction_to(self, name, at):
        """The direction from the loop of this yarn that the line made last, or None if it made none."""
        if name[0] not in self.latest:
            return None
        return "right" if self.place_of(self.latest[name[0]]) < at else "left"

    def behind(self, left):
        """The place behind a loop of the row, or the first one if that is None."""
        return 0 if left is None else self.place_of(left) + 1

    def place_of(self, name):
        """The place of a loop in the row."""
        # It is often near the one that was asked last: without this, long rows would take long.
        for at in range(max(0, self.near - 2), min(len(self.row), self.near + 3)):
            if self.row[at] == name:
                self.near = at
                return at
        self.near = self.row.index(name)
        return self.near
