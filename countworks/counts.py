"""How many things of each size a making has."""

from countworks.books import bare_words, is_bare, need_of
from countworks.makings import inner
from countworks.wholes import need_size


def leads_to(book, making):
    """The makings by which a making is told: those right in it, or a name's rule."""
    if making[0] == "name":
        return [book[making[1]]]
    return inner(making)


def reached(book, making):
    """A making and all that it leads to, each once."""
    found = {making: True}
    ahead = [making]
    while ahead:
        last = ahead.pop()
        for part in leads_to(book, last):
            if part not in found:
                found[part] = True
                ahead.append(part)
    return list(found)


def needs(book, bare, making):
    """The makings whose counts at a size must be known ahead of this one's at the same size."""
    if making[0] != "pair":
        return leads_to(book, making)
    first = [making[1]] if is_bare(bare, making[2]) else []
    second = [making[2]] if is_bare(bare, making[1]) else []
    return first + second


def put_behind(book, bare, making, order):
    """Put a making into the order, behind all that it needs."""
    if making in order:
        return
    # This comes to an end, as in a fair book no word stands bare in its own rule, through others or not.
    for part in needs(book, bare, making):
        put_behind(book, bare, part, order)
    order[making] = True


def in_order(book, making):
    """A making and all that it leads to, each behind all that it needs."""
    bare = bare_words(book)
    order = {}
    for part in reached(book, making):
        put_behind(book, bare, part, order)
    return list(order)


def pairs_at(one, other, size):
    """How many pairs of a size there are."""
    return sum(one[k] * other[size - k] for k in range(size + 1))


def rows_at(one, rows, size):
    """How many rows of a size there are, by the rows of lesser sizes and their first things."""
    if size == 0:
        return 1
    return sum(one[k] * rows[size - k] for k in range(1, size + 1))


def weight(one, size, sign):
    """The sum of d times the count at d for all d that divide the size, times sign where size / d is even."""
    total = 0
    for d in range(1, size + 1):
        if size % d == 0:
            total += d * one[d] * (sign if (size // d) % 2 == 0 else 1)
    return total


def bunches_at(one, bunches, size, sign):
    """How many bags (sign 1) or sets (sign -1) of a size there are, by those of lesser sizes."""
    if size == 0:
        return 1
    return sum(bunches[size - k] * weight(one, k, sign) for k in range(1, size + 1)) // size


def count_at(book, making, known, size):
    """The count of a making at a size, by the counts that are known."""
    kind = making[0]
    if kind == "none":
        return 0
    if kind == "unit":
        return 1 if size == 0 else 0
    if kind == "atom":
        return 1 if size == 1 else 0
    if kind == "name":
        return known[book[making[1]]][size]
    one = known[making[1]]
    if kind == "sum":
        return one[size] + known[making[2]][size]
    if kind == "pair":
        return pairs_at(one, known[making[2]], size)
    if kind == "row":
        return rows_at(one, known[making], size)
    return bunches_at(one, known[making], size, 1 if kind == "bag" else -1)


def count_table(book, making, most):
    """The counts, from size 0 to most, of a making and of all that it leads to."""
    order = in_order(book, making)
    # What is not known yet is nought: a pair meets it only times a count at 0 that is nought.
    known = {part: [0] * (most + 1) for part in order}
    for size in range(most + 1):
        for part in order:
            known[part][size] = count_at(book, part, known, size)
    return known


def counts(book, making, most):
    """The list of counts of all sizes from 0 to most."""
    need_of(book, making)
    need_size(most)
    return count_table(book, making, most)[making]


def count(book, making, size):
    """How many things of a size a making has."""
    return counts(book, making, size)[size]


def first_size(book, making, most):
    """The least size up to most that has things, or None."""
    for size, many in enumerate(counts(book, making, most)):
        if many > 0:
            return size
    return None
