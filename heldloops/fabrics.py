"""Fabrics: their images, the loops that come undone, and how two of them differ."""

SIDE_BEHIND = {"knit": "purl", "purl": "knit", "tuck": "tuck"}


def mirrored(fabric):
    """The mirror image of a fabric: left and right exchanged."""
    loops, crossings, resting, dropped = fabric
    images = [(name, side, list(depth), place[::-1]) for name, side, depth, place in loops]
    return (images, list(crossings), resting[::-1], list(dropped))


def turned(fabric):
    """The fabric seen from the back: left and right, front and back, knit and purl exchanged."""
    loops, crossings, resting, dropped = fabric
    images = [(name, SIDE_BEHIND[side], depth[::-1], place[::-1]) for name, side, depth, place in loops]
    columns = [column[::-1] for column in resting[::-1]]
    return (images, [turned_crossing(crossing) for crossing in crossings], columns, list(dropped))


def turned_crossing(crossing):
    """The crossing seen from the back, where the other one of the two loops lies over each time."""
    first, second, overs = crossing
    return (first, second, [second if over == first else first for over in overs])


def undone(fabric):
    """The names of the loops that come undone, ascending."""
    under = {loop[0]: loop[2] for loop in fabric[0]}
    found = {}
    waiting = list(fabric[3])
    # A way through drawn loops may be thousands of loops long: too long for a function that calls itself.
    while waiting:
        name = waiting.pop()
        if name not in found:
            found[name] = True
            waiting.extend(under[name])
    return sorted(found)


def difference(fabric, other):
    """The first difference of two fabrics, or None if they are equal."""
    loops, crossings, resting, dropped = fabric
    other_loops, other_crossings, other_resting, other_dropped = other
    name = least_unlike(loops_of_names(loops), loops_of_names(other_loops))
    if name is not None:
        return ("loops", name)
    pair = least_unlike(overs_of_pairs(crossings), overs_of_pairs(other_crossings))
    if pair is not None:
        return ("crossings", pair[0], pair[1])
    index = first_unlike(resting, other_resting)
    if index is not None:
        return ("resting", index)
    name = least_unlike(marked(dropped), marked(other_dropped))
    if name is not None:
        return ("dropped", name)
    return None


def loops_of_names(loops):
    """The loop of each name."""
    return {loop[0]: loop for loop in loops}


def marked(names):
    """True for each of the names."""
    return {name: True for name in names}


def overs_of_pairs(crossings):
    """The overs of each pair of names."""
    return {(first, second): overs for first, second, overs in crossings}


def least_unlike(table, other):
    """The least key that only one of two dicts has, or whose values differ; None if there is none."""
    keys = [key for key in table if key not in other or table[key] != other[key]]
    keys.extend([key for key in other if key not in table])
    return min(keys, default=None)


def first_unlike(row, other):
    """The least index of an item that only one of two lists has, or that differs; None if there is none."""
    for index, (item, item_of_other) in enumerate(zip(row, other)):
        if item != item_of_other:
            return index
    if len(row) != len(other):
        return min(len(row), len(other))
    return None
