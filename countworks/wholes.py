"""Whole numbers, the sizes that are counted, and how many things are listed at once."""

from countworks.errors import BadNumber, Full

MOST_SIZE = 40
MOST_LISTED = 3000


def is_whole(thing):
    """Whether a thing is an int and no truth."""
    return isinstance(thing, int) and not isinstance(thing, bool)


def need_whole(thing, least, most):
    """Refuse what is no whole number from least to most."""
    # The limits are not told in the message: Python refuses to write out very great numbers.
    if not is_whole(thing) or thing < least or thing > most:
        raise BadNumber("no whole number within its limits")


def need_size(thing):
    """Refuse what is no size that is counted."""
    need_whole(thing, 0, MOST_SIZE)


def need_room(many):
    """Refuse to list so many things at once if they are too many."""
    if many > MOST_LISTED:
        raise Full("too many things to be listed at once")
