"""Charts: whether they can be worked, the fabrics that they mean, weaving, and their images."""

from heldloops.errors import WrongChart

OPPOSITE = {"left": "right", "right": "left", "knit": "purl", "purl": "knit"}
COLUMNS_TAKEN = {"knit": 1, "purl": 1, "tuck": 0, "pass": 1, "drop": 1}
MOST_JOINED = 4


def check_chart(chart):
    """The numbers of columns before the first line and behind each line. Raises WrongChart."""
    widths = [0]
    for line, parts in enumerate(chart):
        width = widths[-1]
        if parts[0] == "work":
            width = width_behind(parts[2], width, line)
        else:
            check_exchanges(parts[1], width, line)
        widths.append(width)
    return widths


def width_behind(commands, width, line):
    """The number of columns behind a work line that is worked on a row of this width."""
    taken = 0
    left = 0
    for item, command in enumerate(commands):
        many = columns_taken(command)
        if many > width - taken or (command[0] == "join" and not 2 <= many <= MOST_JOINED):
            raise WrongChart(line, item)
        taken += many
        if command[0] != "drop":
            left += 1
    if taken < width:
        raise WrongChart(line, len(commands))
    return left


def check_exchanges(exchanges, width, line):
    """Raises WrongChart for the first exchange that has no place in a row of this width."""
    for item, (column, _) in enumerate(exchanges):
        if not 0 <= column < width - 1:
            raise WrongChart(line, item)


def columns_taken(command):
    """How many columns the command takes."""
    return command[1] if command[0] == "join" else COLUMNS_TAKEN[command[0]]


class Handwork:
    """What has been worked by hand so far: the loops that were made, how they crossed, and where they are now."""

    def __init__(self):
        self.made = []
        self.many = {}
        self.overs = {}
        self.row = []
        self.dropped = []

    def do(self, line):
        """Works one line."""
        if line[0] == "work":
            self.work(line[1], line[2])
        else:
            self.move(line[1])

    def work(self, direction, commands):
        """Works the commands of a work line."""
        names = self.names(direction, commands)
        row = []
        at = 0
        for command, name in zip(commands, names):
            taken = self.row[at:at + columns_taken(command)]
            at += len(taken)
            if name is not None:
                self.made.append((name, command, taken))
                row.append(name)
            elif command[0] == "pass":
                row.extend(taken)
            else:
                self.dropped.extend(taken)
        self.row = row

    def names(self, direction, commands):
        """The name of the loop that each command makes, or None for a command that makes none."""
        names = []
        in_time = list(commands) if direction == "right" else commands[::-1]
        for command in in_time:
            if command[0] in ("pass", "drop"):
                names.append(None)
            else:
                yarn = command[-1]
                number = self.many.get(yarn, 0)
                self.many[yarn] = number + 1
                names.append((yarn, number))
        return names if direction == "right" else names[::-1]

    def move(self, exchanges):
        """Does the exchanges of a move line."""
        for column, over in exchanges:
            left, right = self.row[column], self.row[column + 1]
            upper = left if over == "left" else right
            pair = (left, right) if left < right else (right, left)
            self.overs.setdefault(pair, []).append(upper)
            self.row[column], self.row[column + 1] = right, left

    def fabric(self):
        """The fabric of what has been worked."""
        loops = [drawn(name, command, taken) for name, command, taken in sorted(self.made)]
        crossings = [(pair[0], pair[1], list(self.overs[pair])) for pair in sorted(self.overs)]
        return (loops, crossings, [[name] for name in self.row], sorted(self.dropped))


def drawn(name, command, taken):
    """The loop of this name that the command draws through the loops that it takes."""
    if command[0] == "join":
        depth = list(taken) if command[2] == "left" else taken[::-1]
        return (name, command[3], depth, list(taken))
    return (name, command[0], list(taken), list(taken))


def worked(chart):
    """The handwork of the whole chart."""
    handwork = Handwork()
    for line in chart:
        handwork.do(line)
    return handwork


def fabric_of(chart):
    """The fabric that the chart means."""
    return worked(chart).fabric()


def row_of(chart):
    """The names of the loops in the last row, from left to right."""
    return list(worked(chart).row)


def weave(order, heights):
    """The exchanges that bring a row into the order, where of two columns that cross the higher one lies over."""
    target = [0] * len(order)
    for place, column in enumerate(order):
        target[column] = place
    row = list(range(len(order)))
    exchanges = []
    # Only neighbours that stand against the order change, so no two columns cross twice.
    for end in range(1, len(row)):
        at = end
        while at > 0 and target[row[at - 1]] > target[row[at]]:
            left, right = row[at - 1], row[at]
            exchanges.append((at - 1, "left" if heights[left] > heights[right] else "right"))
            row[at - 1], row[at] = right, left
            at -= 1
    return exchanges


def mirror_chart(chart):
    """The mirror image of the chart."""
    widths = check_chart(chart)
    return [mirrored_line(line, widths[k]) for k, line in enumerate(chart)]


def mirrored_line(line, width):
    """The mirror image of a line that is worked on a row of this width."""
    if line[0] == "work":
        return ("work", OPPOSITE[line[1]], [mirrored_command(command) for command in line[2][::-1]])
    return ("move", [(width - 2 - column, OPPOSITE[over]) for column, over in line[1]])


def mirrored_command(command):
    """The mirror image of a command."""
    if command[0] == "join":
        _, many, lean, side, yarn = command
        return ("join", many, OPPOSITE[lean], side, yarn)
    return command


def turn_chart(chart):
    """The chart seen from the back."""
    return [line_behind(line) for line in mirror_chart(chart)]


def line_behind(line):
    """A line with knit and purl exchanged, and left and right where they tell which loop lies in front."""
    if line[0] == "work":
        return ("work", line[1], [command_behind(command) for command in line[2]])
    return ("move", [(column, OPPOSITE[over]) for column, over in line[1]])


def command_behind(command):
    """A command with knit and purl exchanged, and its lean."""
    if command[0] == "join":
        _, many, lean, side, yarn = command
        return ("join", many, OPPOSITE[lean], OPPOSITE[side], yarn)
    if command[0] in ("knit", "purl"):
        return (OPPOSITE[command[0]], command[1])
    return command
