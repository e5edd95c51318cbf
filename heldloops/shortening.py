"""Shortening code: the same fabric with fewer instructions, and not more passes of the carriage.

Each pass takes instructions out of the code; only that of the holds brings others together in addition. Taking out does
not cost more: what is left of a stretch that one pass of the carriage does is one still.
"""

from heldloops.beds import faced
from heldloops.holds import hold_at
from heldloops.occupied import Occupied


def without_idle(code):
    """The code without xfers and drops of needles that hold nothing."""
    occupied = Occupied()
    kept = []
    for instruction in code:
        if instruction[0] not in ("xfer", "drop") or occupied.holds(instruction[1], instruction[2]):
            kept.append(instruction)
        occupied.do(instruction)
    return kept


def without_returns(code):
    """The code without xfers to needles that hold nothing which the next instruction takes back."""
    occupied = Occupied()
    kept = []
    ways_back = []
    for instruction in code:
        if ways_back and ways_back[-1] == instruction:
            kept.pop()
            ways_back.pop()
        else:
            kept.append(instruction)
            ways_back.append(occupied.way_back(instruction))
        occupied.do(instruction)
    return kept


def without_racks(code):
    """The code without racks that are the rack already, or that lead to another rack and could be left out."""
    occupied = Occupied()
    kept = []
    racks = [0]
    for instruction in code:
        if instruction[0] != "rack":
            kept.append(instruction)
        else:
            rack = instruction[1]
            if kept and kept[-1][0] == "rack" and (occupied.is_back_free() or goes_on(racks, rack)):
                kept.pop()
                racks.pop()
            if rack != racks[-1]:
                kept.append(instruction)
                racks.append(rack)
        occupied.do(instruction)
    if kept and kept[-1][0] == "rack" and occupied.is_back_free():
        kept.pop()
    return kept


def goes_on(racks, rack):
    """Whether the rack leads on in the direction of the last change: then each two loops cross at most once by both."""
    return racks[-2] < racks[-1] < rack or racks[-2] > racks[-1] > rack


def without_transfers_between_purls(code):
    """The code without xfers to needles that hold nothing which another one takes back before their column is used.

    So a column that is made on one bed line by line stays there, as long as the rack does not change.
    """
    occupied = Occupied()
    kept = []
    waiting = {}
    for instruction in code:
        if instruction[0] == "rack":
            if instruction[1] != occupied.rack:
                waiting = {}
            kept.append(instruction)
        else:
            column = column_of(instruction, occupied.rack)
            transfers = waiting.get(column, [])
            if transfers and transfers[-1][1] == instruction:
                kept[transfers[-1][0]] = None
                waiting[column] = transfers[:-1]
            else:
                way_back = occupied.way_back(instruction)
                waiting[column] = [] if way_back is None else transfers + [(len(kept), way_back)]
                kept.append(instruction)
        occupied.do(instruction)
    return [instruction for instruction in kept if instruction is not None]


def column_of(instruction, rack):
    """The column of the needle that the instruction names."""
    _, bed, needle = instruction[:3]
    return needle if bed == "front" else faced(bed, needle, rack)


def without_divided_holds(code):
    """The code where holds one behind the other are done as one if they may be."""
    occupied = Occupied()
    kept = []
    last = None
    at = 0
    while at < len(code):
        hold = hold_at(code, at, occupied)
        done = [code[at]] if hold is None else hold.code()
        if last is not None and hold is not None and last.takes_up(hold):
            last = last.joined(hold)
        else:
            kept.extend(last.code() if last is not None else [])
            kept.extend(done if hold is None else [])
            last = hold
        for instruction in done:
            occupied.do(instruction)
        at += len(done)
    return kept + (last.code() if last is not None else [])


PASSES = {
    "idle": without_idle,
    "returns": without_returns,
    "racks": without_racks,
    "purls": without_transfers_between_purls,
    "holds": without_divided_holds,
}


def shorten(code, width, reach, passes):
    """The code shortened by the named passes, in this order and again, until none of them finds anything more."""
    # Neither the width nor the reach matters: what is left of the code names no other needles and racks than it did.
    short = list(code)
    index = 0
    in_vain = 0
    while in_vain < len(passes):
        action = PASSES[passes[index]]
        shorter = action(short)
        in_vain = in_vain + 1 if len(shorter) == len(short) else 0
        short = shorter
        index = (index + 1) % len(passes)
    return short
