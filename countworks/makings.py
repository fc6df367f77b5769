"""Makings: what they are, and what stands in them."""

from countworks.errors import BadMaking

MOST_PARTS = 40
MOST_DEEP = 6
MOST_LETTERS = 8

# How many makings stand right in one of each kind; an atom and a name have a text there.
INNER = {"none": 0, "unit": 0, "sum": 2, "pair": 2, "row": 1, "bag": 1, "set": 1}


def is_letter(thing):
    """Whether a thing is a text of one small letter a to z."""
    return isinstance(thing, str) and len(thing) == 1 and "a" <= thing <= "z"


def is_word(thing):
    """Whether a thing is a text of 1 to 8 small letters."""
    if not isinstance(thing, str) or not 1 <= len(thing) <= MOST_LETTERS:
        return False
    return all(is_letter(sign) for sign in thing)


def is_formed(thing, deep):
    """Whether a thing that stands so deep has the form of a making, however many parts it has."""
    # The depth is asked first, so that nothing nested without end is followed to its end.
    if deep > MOST_DEEP or not isinstance(thing, tuple) or len(thing) == 0:
        return False
    kind = thing[0]
    if not isinstance(kind, str):
        return False
    if kind == "atom":
        return len(thing) == 2 and is_letter(thing[1])
    if kind == "name":
        return len(thing) == 2 and is_word(thing[1])
    if kind not in INNER or len(thing) != INNER[kind] + 1:
        return False
    return all(is_formed(part, deep + 1) for part in thing[1:])


def inner(making):
    """The makings that stand right in a making."""
    if making[0] in ("atom", "name"):
        return []
    return list(making[1:])


def parts_within(making):
    """A making and all makings in it."""
    parts = [making]
    for part in inner(making):
        parts.extend(parts_within(part))
    return parts


def words_within(making):
    """The words that a making names, rising, each once."""
    return sorted({part[1] for part in parts_within(making) if part[0] == "name"})


def is_making(thing):
    """Whether a thing is a making."""
    return is_formed(thing, 0) and len(parts_within(thing)) <= MOST_PARTS


def need_making(thing):
    """Refuse what is no making."""
    if not is_making(thing):
        raise BadMaking("no making")


def names_in(making):
    """The rising list of words that a making names, each once."""
    need_making(making)
    return words_within(making)


def parts_in(making):
    """How many parts a making has."""
    need_making(making)
    return len(parts_within(making))
