"""Series: tuples of whole numbers for sizes 0, 1 and so on, and what is made of them."""

from countworks.counts import bunches_at, pairs_at, rows_at
from countworks.errors import BadSeries
from countworks.wholes import MOST_SIZE, is_whole, need_whole


def is_series(thing):
    """Whether a thing is a tuple of 1 to 41 whole numbers."""
    if not isinstance(thing, tuple) or not 1 <= len(thing) <= MOST_SIZE + 1:
        return False
    return all(is_whole(number) for number in thing)


def need_series(thing):
    """Refuse what is no series."""
    if not is_series(thing):
        raise BadSeries("no tuple of 1 to 41 whole numbers")


def need_nought(thing):
    """Refuse what is no series, or one that is not nought at 0."""
    need_series(thing)
    if thing[0] != 0:
        raise BadSeries("not nought at 0")


def product(one, other):
    """Two series times each other, as long as the shorter one."""
    shorter = min(len(one), len(other))
    return tuple([pairs_at(one, other, size) for size in range(shorter)])


def added(one, other):
    """Two series added, as long as the shorter one."""
    need_series(one)
    need_series(other)
    return tuple([left + right for left, right in zip(one, other)])


def times(one, other):
    """Two series times each other: at each size the sum of products of all pairs of sizes that come to it."""
    need_series(one)
    need_series(other)
    return product(one, other)


def rows_of(one):
    """The rows of a series that is nought at 0."""
    need_nought(one)
    rows = []
    for size in range(len(one)):
        rows.append(rows_at(one, rows, size))
    return tuple(rows)


def bunches_of(one, sign):
    """The bags (sign 1) or sets (sign -1) of a series."""
    bunches = []
    for size in range(len(one)):
        bunches.append(bunches_at(one, bunches, size, sign))
    return tuple(bunches)


def bags_of(one):
    """The bags of a series that is nought at 0."""
    need_nought(one)
    return bunches_of(one, 1)


def sets_of(one):
    """The sets of a series that is nought at 0."""
    need_nought(one)
    return bunches_of(one, -1)


def inside(one, other):
    """One series with another one, which is nought at 0, in the stead of its variable."""
    need_series(one)
    need_nought(other)
    shorter = min(len(one), len(other))
    told = (0,) * shorter
    # From the last number on: what is told is taken times the other one, and the number ahead is added.
    for number in reversed(one[:shorter]):
        told = product(told, other)
        told = (told[0] + number,) + told[1:]
    return told


def spread(one, by):
    """The series in which each size stands by times as far out, as long as the one."""
    need_series(one)
    need_whole(by, 1, MOST_SIZE)
    return tuple([one[size // by] if size % by == 0 else 0 for size in range(len(one))])
