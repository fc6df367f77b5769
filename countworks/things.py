"""Things: all of a size, which are things of a making, and their told order."""

from countworks.books import need_of
from countworks.errors import BadThing
from countworks.listings import all_things
from countworks.makings import is_letter
from countworks.tallies import Tally
from countworks.wholes import is_whole, need_room, need_size


def is_mark(thing):
    """Whether a thing is one of the marks that tell the two sides of a sum."""
    return is_whole(thing) and thing in (0, 1)


def size_of(thing):
    """How many letters a thing has."""
    letters = 0
    # Things may be nested far deeper than calls should be, here and below.
    ahead = [thing]
    while ahead:
        last = ahead.pop()
        if isinstance(last, tuple):
            ahead.extend(last)
        elif is_letter(last):
            letters += 1
        elif not is_mark(last):
            raise BadThing("no letter, 0, 1 or tuple of such")
    return letters


def has_form(making, thing):
    """Whether a thing has the form of a thing of a making, whatever stands within it."""
    kind = making[0]
    if kind in ("none", "name"):
        return kind == "name"
    if kind == "atom":
        return isinstance(thing, str) and thing == making[1]
    if not isinstance(thing, tuple):
        return False
    if kind == "unit":
        return len(thing) == 0
    if kind == "sum":
        return len(thing) == 2 and is_mark(thing[0])
    return len(thing) == 2 or kind != "pair"


def within(book, making, thing):
    """The things right within a thing that has the form of a making's, as pairs of a making and a thing of it."""
    kind = making[0]
    if kind == "name":
        return [(book[making[1]], thing)]
    if kind == "sum":
        return [(making[1 + thing[0]], thing[1])]
    if kind == "pair":
        return [(making[1], thing[0]), (making[2], thing[1])]
    if kind in ("row", "bag", "set"):
        return [(making[1], part) for part in thing]
    return []


def apart(book, making, one, other):
    """Below nought, nought or above, as one thing stands ahead of, at or behind another in the told order."""
    ahead = [(making, one, other)]
    while ahead:
        part, left, right = ahead.pop()
        unlike = size_of(left) - size_of(right)
        # Within names and sums the sizes stay alike, so they are not asked for again.
        while unlike == 0 and part[0] in ("name", "sum"):
            if part[0] == "sum":
                unlike = left[0] - right[0]
                part, left, right = part[1 + left[0]], left[1], right[1]
            else:
                part = book[part[1]]
        if unlike != 0:
            return unlike
        sides = zip_within(book, part, left, right)
        ahead.extend(sides[::-1])
    return 0


def zip_within(book, making, one, other):
    """What stands right within two things of a making, place by place, each with its making."""
    lefts = within(book, making, one)
    rights = within(book, making, other)
    return [(part, left, right) for (part, left), (same, right) in zip(lefts, rights)]


def keeps_order(book, making, row):
    """Whether a row never falls, for a bag, or rises, for a set."""
    for left, right in zip(row, row[1:]):
        step = apart(book, making[1], left, right)
        if step > 0 or (step == 0 and making[0] == "set"):
            return False
    return True


def is_made(book, making, thing):
    """Whether a thing is one of a making of a fair book."""
    ahead = [(making, thing)]
    bunches = []
    while ahead:
        part, last = ahead.pop()
        if not has_form(part, last):
            return False
        if part[0] in ("bag", "set"):
            bunches.append((part, last))
        ahead.extend(within(book, part, last))
    # Only things have a told order, so it is asked for once all within are known to be such, but for their order.
    return all(keeps_order(book, part, row) for part, row in bunches)


def need_thing(book, making, thing):
    """Refuse what is no thing of a making."""
    if not is_made(book, making, thing):
        raise BadThing("no thing of the making")


def is_thing(book, making, thing):
    """Whether a thing of any kind is one of a making."""
    need_of(book, making)
    return is_made(book, making, thing)


def is_ahead(book, making, one, other):
    """Whether one thing of a making stands ahead of another in the told order."""
    need_of(book, making)
    need_thing(book, making, one)
    need_thing(book, making, other)
    return apart(book, making, one, other) < 0


def listing(book, making, size):
    """The list of all things of a size, in the told order."""
    need_of(book, making)
    need_size(size)
    tally = Tally(book, making, size)
    need_room(tally.known[making][size])
    return all_things(tally, making, size)
