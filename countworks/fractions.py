"""Fractions of plain makings: two tuples of factors that tell the counts of all sizes, for ever."""

from countworks.books import is_in_ring, need_of
from countworks.counts import reached
from countworks.errors import BadSeries, NotPlain
from countworks.factors import lowest, minus, plus, product
from countworks.makings import words_within
from countworks.wholes import is_whole, need_size

MOST_FACTORS = 60


def leads_plainly(book, making):
    """Whether a making of a fair book is plain."""
    parts = reached(book, making)
    if any(part[0] in ("bag", "set") for part in parts):
        return False
    leads = {word: words_within(rule) for word, rule in book.items()}
    return not any(part[0] == "name" and is_in_ring(leads, part[1]) for part in parts)


def need_plain(book, making):
    """Refuse what is no fair book, a making that is not of it, and one that is not plain."""
    need_of(book, making)
    if not leads_plainly(book, making):
        raise NotPlain("a bag, a set, or a word that leads to itself")


def is_factors(thing):
    """Whether a thing is a tuple of up to 60 whole numbers."""
    if not isinstance(thing, tuple) or len(thing) > MOST_FACTORS:
        return False
    return all(is_whole(factor) for factor in thing)


def need_pair(thing):
    """Refuse what is no pair of tuples of factors, the second beginning with 1."""
    if not isinstance(thing, tuple) or len(thing) != 2 or not all(is_factors(side) for side in thing):
        raise BadSeries("no pair of tuples of up to 60 whole numbers")
    if thing[1][:1] != (1,):
        raise BadSeries("what is below does not begin with 1")


def multiplied(one, other):
    """Two fractions times each other, in lowest terms."""
    return lowest(product(one[0], other[0]), product(one[1], other[1]))


def summed(one, other):
    """Two fractions added, in lowest terms."""
    top = plus(product(one[0], other[1]), product(other[0], one[1]))
    return lowest(top, product(one[1], other[1]))


def rows_fraction(one):
    """The fraction of rows of things that have this fraction, of which none is of size 0."""
    # What divides both of these divides both of the fraction's own, so they are in lowest terms.
    return (one[1], minus(one[1], one[0]))


def fraction_by(book, making, known):
    """The fraction of a plain making; known keeps those of the makings that it leads to."""
    if making in known:
        return known[making]
    kind = making[0]
    if kind == "none":
        told = ((), (1,))
    elif kind == "unit":
        told = ((1,), (1,))
    elif kind == "atom":
        told = ((0, 1), (1,))
    elif kind == "name":
        told = fraction_by(book, book[making[1]], known)
    elif kind == "row":
        told = rows_fraction(fraction_by(book, making[1], known))
    else:
        merge = summed if kind == "sum" else multiplied
        told = merge(fraction_by(book, making[1], known), fraction_by(book, making[2], known))
    known[making] = told
    return told


def is_plain(book, making):
    """Whether no bag, no set and no word that leads to itself is in a making or in a rule that it leads to."""
    need_of(book, making)
    return leads_plainly(book, making)


def fraction(book, making):
    """The pair (top, below) in lowest terms such that below times the counts is top."""
    need_plain(book, making)
    return fraction_by(book, making, {})


def terms(pair, most):
    """The list of counts that a pair tells, from size 0 to most."""
    need_pair(pair)
    need_size(most)
    top, below = pair
    told = []
    for size in range(most + 1):
        behind = sum(below[k] * told[size - k] for k in range(1, min(size + 1, len(below))))
        told.append((top[size] if size < len(top) else 0) - behind)
    return told


def parted_size(book, one, other):
    """The least size at which two makings have unlike counts, or None."""
    left = fraction(book, one)
    right = fraction(book, other)
    # What is below both begins with 1, so their counts part where this does.
    between = minus(product(left[0], right[1]), product(right[0], left[1]))
    for size, factor in enumerate(between):
        if factor != 0:
            return size
    return None


def going_on(book, making):
    """From which size on each count is told by those ahead of it, and their factors, the nearest one first."""
    top, below = fraction(book, making)
    return (len(top), tuple([-factor for factor in below[1:]]))


def times_of(one, other):
    """The fraction of two pairs times each other, in lowest terms."""
    need_pair(one)
    need_pair(other)
    return multiplied(one, other)


def added_of(one, other):
    """The fraction of two pairs added, in lowest terms."""
    need_pair(one)
    need_pair(other)
    return summed(one, other)
