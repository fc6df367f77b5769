"""Parts of numbers: tuples of whole numbers above nought that never rise."""

from countworks.errors import BadNumber, BadParts
from countworks.wholes import is_whole, need_room, need_whole

MOST_LISTED_NUMBER = 30
MOST_COUNTED_NUMBER = 200
MOST_PART = 60


def need_truth(thing):
    """Refuse what is no truth."""
    if not isinstance(thing, bool):
        raise BadNumber("neither True nor False")


def need_asked(number, limit, most, odd, unlike):
    """Refuse a number beyond its limit, a greatest part beyond 60, and what are no truths."""
    need_whole(number, 0, limit)
    need_whole(most, 0, MOST_PART)
    need_truth(odd)
    need_truth(unlike)


def parts_from(number, most, odd, unlike):
    """All parts of a number, none greater than most, the greater ones ahead."""
    if number == 0:
        return [()]
    told = []
    for first in range(min(number, most), 0, -1):
        if first % 2 == 1 or not odd:
            for rest in parts_from(number - first, first - 1 if unlike else first, odd, unlike):
                told.append((first,) + rest)
    return told


def parts_counted(number, most, odd, unlike):
    """How many parts of a number there are, none greater than most."""
    many = [1] + [0] * number
    for part in range(1, min(number, most) + 1):
        if part % 2 == 1 or not odd:
            totals = list(range(part, number + 1))
            # Going down, what a part is added to does not have it yet; going up, it may have it again and again.
            if unlike:
                totals = totals[::-1]
            for total in totals:
                many[total] += many[total - part]
    return many[number]


def is_falling(some):
    """Whether no number in a tuple is less than the one behind it."""
    return all(left >= right for left, right in zip(some, some[1:]))


def need_parts(thing):
    """Refuse what are no parts of a number up to 200."""
    if not isinstance(thing, tuple) or not all(is_whole(part) and part > 0 for part in thing):
        raise BadParts("no tuple of whole numbers above nought")
    if not is_falling(thing) or sum(thing) > MOST_COUNTED_NUMBER:
        raise BadParts("parts that rise, or of too great a number")


def powers_in(number):
    """The powers of two that come to a number."""
    powers = []
    power = 1
    while power <= number:
        if number // power % 2 == 1:
            powers.append(power)
        power *= 2
    return powers


def odd_in(part):
    """The greatest odd number that divides a part."""
    while part % 2 == 0:
        part //= 2
    return part


def parts(number, *, most=60, odd=False, unlike=False):
    """The list of all parts of a number, none greater than most, odd ones, or unlike ones alone."""
    need_asked(number, MOST_LISTED_NUMBER, most, odd, unlike)
    need_room(parts_counted(number, most, odd, unlike))
    return parts_from(number, most, odd, unlike)


def how_many_parts(number, *, most=60, odd=False, unlike=False):
    """How many parts of a number there are, none greater than most, odd ones, or unlike ones alone."""
    need_asked(number, MOST_COUNTED_NUMBER, most, odd, unlike)
    return parts_counted(number, most, odd, unlike)


def laid_over(some):
    """The parts that tell, for 1, 2 and so on, how many of some parts are that great at least."""
    need_parts(some)
    return tuple([sum(1 for part in some if part >= least) for least in range(1, max(some, default=0) + 1)])


def unlike_of(some):
    """The unlike parts that odd parts lead to: each part times each power of two that its often comes to."""
    need_parts(some)
    if not all(part % 2 == 1 for part in some):
        raise BadParts("a part that is not odd")
    unlike = [part * power for part in sorted(set(some)) for power in powers_in(some.count(part))]
    return tuple(sorted(unlike, reverse=True))


def odd_of(some):
    """The odd parts that lead to unlike parts."""
    need_parts(some)
    if len(set(some)) < len(some):
        raise BadParts("a part that stands twice")
    odd = [odd_in(part) for part in some for k in range(part // odd_in(part))]
    return tuple(sorted(odd, reverse=True))
