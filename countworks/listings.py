"""Lists of all things of a size: first which lists are wanted, then each one of those that it is made of."""

from countworks.wholes import MOST_LISTED


def splits(first, second, size):
    """The sizes of the first things in pairs of a size, rising."""
    return [k for k in range(size + 1) if first[k] > 0 and second[size - k] > 0]


def wants(tally, making, size):
    """The makings and sizes of whose lists the list of a making at a size is made."""
    kind = making[0]
    if kind == "name":
        return [(tally.book[making[1]], size)]
    if kind == "sum":
        return [(making[1], size), (making[2], size)]
    if kind == "pair":
        ways = splits(tally.known[making[1]], tally.known[making[2]], size)
        return [(making[1], k) for k in ways] + [(making[2], size - k) for k in ways]
    if kind not in ("row", "bag", "set"):
        return []
    one = tally.known[making[1]]
    ways = splits(one, tally.known[making], size)
    rest = [(making, size - k) for k in ways] if kind == "row" else []
    # Things that are too many to be listed stand in no set here: there would be as many sets with one of them.
    return rest + [(making[1], k) for k in ways if one[k] <= MOST_LISTED]


def wanted_lists(tally, making, size):
    """For each part the list of truths, by size, whether its list is wanted for that of a making at a size."""
    wanted = {part: [False] * (size + 1) for part in tally.known}
    wanted[making][size] = True
    # The counts stand in the order in which they are known, so what is wanted comes up when going back.
    order = list(tally.known)
    for k in reversed(range(size + 1)):
        for part in reversed(order):
            if wanted[part][k]:
                for source, at in wants(tally, part, k):
                    wanted[source][at] = True
    return wanted


def pairs_listed(tally, lists, making, size):
    """All pairs of a size in the told order."""
    first, second = making[1], making[2]
    return [
        (s, t)
        for k in splits(tally.known[first], tally.known[second], size)
        for s in lists[first][k]
        for t in lists[second][size - k]
    ]


def rows_listed(tally, lists, making, size):
    """All rows of a size in the told order, each a first thing and a row of the rest."""
    if size == 0:
        return [()]
    one = making[1]
    return [
        (s,) + rest
        for k in splits(tally.known[one], tally.known[making], size)
        for s in lists[one][k]
        for rest in lists[making][size - k]
    ]


def bunches_listed(tally, lists, making, size):
    """All bags or sets of a size in the told order."""
    things = lists[making[1]]
    return [tuple([things[k][number] for k, number in items]) for items in tally.bunches[making].all_items(size)]


def listed(tally, lists, making, size):
    """The list of all things of a making at a size, by the lists that it wants."""
    kind = making[0]
    if kind == "none":
        return []
    if kind == "unit":
        return [()] if size == 0 else []
    if kind == "atom":
        return [making[1]] if size == 1 else []
    if kind == "name":
        return lists[tally.book[making[1]]][size]
    if kind == "sum":
        return [(0, t) for t in lists[making[1]][size]] + [(1, t) for t in lists[making[2]][size]]
    if kind == "pair":
        return pairs_listed(tally, lists, making, size)
    if kind == "row":
        return rows_listed(tally, lists, making, size)
    return bunches_listed(tally, lists, making, size)


def all_things(tally, making, size):
    """The list of all things of a making at a size, in the told order."""
    wanted = wanted_lists(tally, making, size)
    lists = {part: [[] for k in range(size + 1)] for part in tally.known}
    for k in range(size + 1):
        for part in tally.known:
            if wanted[part][k]:
                lists[part][k] = listed(tally, lists, part, k)
    return lists[making][size]
