"""Plans for spacing: which stacks go at once, and in which order."""


def least_plan(old, new, reach):
    """A plan with the fewest holds, or None if some way is longer than twice the reach."""
    ways = [there - here for here, there in zip(old, new)]
    if any(abs(way) > 2 * reach for way in ways):
        return None
    to_the_right = [k for k, way in enumerate(ways) if way > 0]
    to_the_left = [k for k, way in enumerate(ways) if way < 0]
    return fewest_holds(chains_of(old, new, to_the_right[::-1]) + chains_of(old, new, to_the_left))


def chains_of(old, new, indexes):
    """The stacks of one direction, the foremost first, as chains of holds.

    A stack waits for the one ahead of it if that one stands on its way, or goes together with it if both have the same
    way. So the holds of a chain, (way, indexes), are done in their order, but chains do not wait for one another.
    """
    chains = []
    ahead = None
    for k in indexes:
        way = new[k] - old[k]
        if ahead is None or not min(old[k], new[k]) <= old[ahead] <= max(old[k], new[k]):
            chains.append([(way, [k])])
        elif chains[-1][-1][0] == way:
            chains[-1][-1][1].append(k)
        else:
            chains[-1].append((way, [k]))
        ahead = k
    return chains


def fewest_holds(chains):
    """The shortest list of holds that does all chains; what has the same way in several chains is done as one hold."""
    start = tuple([0 for _ in chains])
    end = tuple([len(chain) for chain in chains])
    came_from = {start: None}
    reached = [start]
    while end not in came_from:
        farther = []
        for place in reached:
            for way in ways_to_try(chains, place):
                behind = done_behind(chains, place, way)
                if behind not in came_from:
                    came_from[behind] = (place, way)
                    farther.append(behind)
        reached = farther
    return holds_on_the_way(chains, came_from, end)


def ways_to_try(chains, place):
    """The ways with which a shortest list may go on, where place is how many holds of each chain are done."""
    first = {}
    later = {}
    for chain, done in zip(chains, place):
        for way, _ in chain[done:done + 1]:
            first[way] = True
        for way, _ in chain[done + 1:]:
            later[way] = True
    for way in first:
        # Such a way needs one more hold at any time, and all that goes this way can go now.
        if way not in later:
            return [way]
    return list(first)


def done_behind(chains, place, way):
    """How many holds of each chain are done when all that can go this way has gone."""
    counts = []
    for chain, done in zip(chains, place):
        goes = done < len(chain) and chain[done][0] == way
        counts.append(done + 1 if goes else done)
    return tuple(counts)


def holds_on_the_way(chains, came_from, end):
    """The holds that lead to the end."""
    holds = []
    place = end
    while came_from[place] is not None:
        before, way = came_from[place]
        indexes = []
        for chain, done, done_then in zip(chains, place, before):
            for hold in chain[done_then:done]:
                indexes.extend(hold[1])
        holds.append((way, sorted(indexes)))
        place = before
    return holds[::-1]
