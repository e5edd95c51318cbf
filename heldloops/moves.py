"""Moves: code that brings the stacks of front needles to other front needles."""


def carry(i, j, reach):
    """Brings the stack of the front needle i to the front needle j, behind the loops that it holds."""
    return shift([i], j - i, reach)


def shift(needles, way, reach):
    """Brings the stacks of these front needles, ascending, to those that lie farther to the right by the way, at once.

    On each of these ways no other needle holds loops, but the last one may.
    """
    code = []
    # No rack helps with a reach below 1: then the machine refuses the code, but writing it comes to an end.
    longest = 2 * max(reach, 1)
    while needles and way != 0:
        step = max(-longest, min(longest, way))
        code.extend(shift_once(needles, step))
        needles = [needle + step for needle in needles]
        way -= step
    return code


def shift_once(needles, step):
    """The same for a way of at most twice the reach."""
    # The rack goes as far to one side of 0 as to the other, so each back needle lies between the two front ones.
    rack = -(step // 2)
    code = [("rack", rack)]
    code.extend([("xfer", "front", needle) for needle in needles])
    code.append(("rack", rack + step))
    code.extend([("xfer", "back", needle - rack) for needle in needles])
    return code


def space(old, new, reach):
    """Brings the stack of each front needle of old to the front needle at the same place in new."""
    runs = runs_of_ways(old, new)
    code = []
    # The foremost go first: what lies ahead of a stack either goes the same way or lies beyond its new needle.
    for way, needles in runs[::-1]:
        if way > 0:
            code.extend(shift(needles, way, reach))
    for way, needles in runs:
        if way < 0:
            code.extend(shift(needles, way, reach))
    return code


def runs_of_ways(old, new):
    """The needles of old divided into runs that have the same way to go, as (way, needles)."""
    runs = []
    for here, there in zip(old, new):
        if runs and runs[-1][0] == there - here:
            runs[-1][1].append(here)
        else:
            runs.append((there - here, [here]))
    return runs


def exchange(i, over, reach):
    """Lets the stacks of the front needles i and i + 2 change their needles; over tells which of them lies over."""
    upper, lower, way = (i, i + 2, 1) if over == "left" else (i + 2, i, -1)
    # The upper stack goes to the needle between, the lower one passes it on the back bed, and both end their ways.
    # Each rack brings one stack on its way and takes up the next one, so a reach of 1 is enough for any machine.
    return [
        ("rack", 0), ("xfer", "front", upper),
        ("rack", way), ("xfer", "back", upper), ("xfer", "front", lower),
        ("rack", -way), ("xfer", "back", i + 1), ("xfer", "front", i + 1),
        ("rack", 0), ("xfer", "back", lower),
    ]
