"""The two beds of needles."""

OTHER_BED = {"front": "back", "back": "front"}


def faced(bed, needle, rack):
    """The number of the needle of the other bed that this one faces, which need not be there."""
    return needle + rack if bed == "back" else needle - rack


class Bed:
    """The needles of one bed that hold loops, in ascending order, and what each of them holds."""

    def __init__(self):
        self.stacks = {}
        self.needles = []

    def put(self, needle, stack):
        """Makes the needle hold this stack alone."""
        if needle not in self.stacks:
            self.needles.insert(first_from(self.needles, needle), needle)
        self.stacks[needle] = stack

    def take(self, needle):
        """Takes the stack from a needle that holds loops."""
        del self.needles[first_from(self.needles, needle)]
        return self.stacks.pop(needle)


def first_from(numbers, least):
    """The index of the first of ascending numbers that is not below the least one."""
    low, high = 0, len(numbers)
    while low < high:
        middle = (low + high) // 2
        if numbers[middle] < least:
            low = middle + 1
        else:
            high = middle
    return low


def pairs_between(needles, others, low, high):
    """All pairs of a needle and another one that lies above needle + low and below needle + high.

    Both lists ascend; needles for which nothing lies between are passed over as far as the two ends tell.
    """
    if not others:
        return []
    needles = needles[first_from(needles, others[0] - high + 1):first_from(needles, others[-1] - low)]
    start = first_from(others, needles[0] + low + 1) if needles else 0
    end = start
    pairs = []
    for needle in needles:
        while others[start] <= needle + low:
            start += 1
        while end < len(others) and others[end] < needle + high:
            end += 1
        pairs.extend([(needle, other) for other in others[start:end]])
    return pairs
