"""Tidying charts: the same fabric without idle lines."""


def tidy(chart):
    """The chart without lines that do nothing, where moves one behind the other are one line."""
    tidied = []
    for line in chart:
        if is_idle(line):
            continue
        if line[0] == "work":
            tidied.append(line)
        elif tidied and tidied[-1][0] == "move":
            tidied[-1][1].extend(line[1])
        else:
            # A list of its own, so that the next moves do not come into the chart that was passed.
            tidied.append(("move", list(line[1])))
    return tidied


def is_idle(line):
    """Whether the line leaves all loops as they are."""
    if line[0] == "move":
        return not line[1]
    return all(command[0] == "pass" for command in line[2])
