"""Whole numbers, and the sizes that are counted."""

from countworks.errors import BadNumber

MOST_SIZE = 40


def is_whole(thing):
    """Whether a thing is an int and no truth."""
    return isinstance(thing, int) and not isinstance(thing, bool)


def need_whole(thing, least, most):
    """Refuse what is no whole number from least to most."""
    if not is_whole(thing) or thing < least or thing > most:
        raise BadNumber(f"no whole number from {least} to {most}")


def need_size(thing):
    """Refuse what is no size that is counted."""
    need_whole(thing, 0, MOST_SIZE)
