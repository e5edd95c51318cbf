"""Compiling: code of the machine for a chart.

Ahead of each line and behind it all loops are on the front bed, each on the home needle of its column.
"""

from heldloops.charts import MOST_JOINED, check_chart, columns_taken
from heldloops.errors import TooWide
from heldloops.moves import exchange, shift, space


def compile_chart(chart, width, reach):
    """Code whose fabric on this machine is the fabric of the chart. Raises WrongChart or TooWide."""
    check_room(check_chart(chart), width)
    code = []
    for line in chart:
        if line[0] == "work":
            code.extend(code_of_work(line[1], line[2], reach))
        else:
            for column, over in line[1]:
                code.extend(exchange(home(column), over, reach))
    return without_idle_racks(code)


def check_room(columns, width):
    """Raises TooWide for the first line with more columns before or behind it than the machine has room for."""
    # The columns before a line were those behind the line ahead of it, and at first there are none.
    for line, many in enumerate(columns[1:]):
        if 2 * many > width - 1:
            raise TooWide(line)


def without_idle_racks(code):
    """The code without the racks that are the rack already."""
    kept = []
    rack = 0
    for instruction in code:
        if instruction != ("rack", rack):
            kept.append(instruction)
        if instruction[0] == "rack":
            rack = instruction[1]
    return kept


def home(column):
    """The home needle of the column."""
    return 2 * column + 1


def code_of_work(direction, commands, reach):
    """Code for a work line."""
    placed = with_columns(commands)
    code = [("drop", "front", home(taken)) for command, taken, _ in placed if command[0] == "drop"]
    code.extend(gathering(placed, reach))
    staying = [(gathered_on(command, taken), home(left)) for command, taken, left in placed
               if command[0] not in ("tuck", "drop")]
    code.extend(space([here for here, _ in staying], [there for _, there in staying], reach))
    code.extend(making(direction, placed))
    return code


def with_columns(commands):
    """Each command with the first column that it may take, and the column that it may leave."""
    placed = []
    taken = 0
    left = 0
    for command in commands:
        placed.append((command, taken, left))
        taken += columns_taken(command)
        if command[0] != "drop":
            left += 1
    return placed


def gathering(placed, reach):
    """Code that brings the loops of each join to one needle, those that shall lie behind later than the others."""
    joins = [(command, taken) for command, taken, _ in placed if command[0] == "join"]
    code = []
    for step in range(1, MOST_JOINED):
        leftward = [home(taken + step) for command, taken in joins if command[2] == "left" and step < command[1]]
        code.extend(shift(leftward, -2 * step, reach))
        rightward = [gathered_on(command, taken) - 2 * step for command, taken in joins
                     if command[2] == "right" and step < command[1]]
        code.extend(shift(rightward, 2 * step, reach))
    return code


def gathered_on(command, taken):
    """The needle on which the command finds all loops that it takes: that of the loop which lies in front."""
    if command[0] == "join" and command[2] == "right":
        return home(taken + command[1] - 1)
    return home(taken)


def making(direction, placed):
    """Code that makes the loops of all commands, each on its new needle. Those of the back bed go there and return."""
    makes = [instruction_for(command, home(left)) for command, _, left in placed if command[0] not in ("pass", "drop")]
    purls = [needle for _, bed, needle, _ in makes if bed == "back"]
    in_time = makes if direction == "right" else makes[::-1]
    if not purls:
        return in_time
    there = [("xfer", "front", needle) for needle in purls]
    return [("rack", 0)] + there + in_time + [("xfer", "back", needle) for needle in purls]


def instruction_for(command, needle):
    """The instruction that makes the loop of the command at the needle."""
    if command[0] == "tuck":
        return ("tuck", "front", needle, command[1])
    side = command[3] if command[0] == "join" else command[0]
    return ("knit", "front" if side == "knit" else "back", needle, command[-1])
