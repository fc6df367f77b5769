"""How the rules of steps lead things: each takes a thing of one side to that of the other."""


def swapped(thing):
    """Of a sum: the other mark."""
    return (1 - thing[0], thing[1])


def turned_about(thing):
    """Of a pair: the second thing first."""
    return (thing[1], thing[0])


def shifted(thing):
    """From one of x and one of y and z to one of one of x and y, and z."""
    if thing[0] == 0:
        return (0, thing)
    mark, inner = thing[1]
    return (0, (1, inner)) if mark == 0 else (1, inner)


def shifted_back(thing):
    """From one of one of x and y, and z to one of x and one of y and z."""
    if thing[0] == 1:
        return (1, thing)
    mark, inner = thing[1]
    return (0, inner) if mark == 0 else (1, (0, inner))


def moved(thing):
    """From x with y and z to x and y with z."""
    first, (second, third) = thing
    return ((first, second), third)


def moved_back(thing):
    """From x and y with z to x with y and z."""
    (first, second), third = thing
    return (first, (second, third))


def dealt(thing):
    """The mark of a pair's second thing goes ahead of the pair."""
    first, (mark, second) = thing
    return (mark, (first, second))


def dealt_back(thing):
    """The mark goes back into the pair."""
    mark, (first, second) = thing
    return (first, (mark, second))


def second_of(thing):
    """What is left where nothing, or the thing without letters, is left out ahead of it."""
    return thing[1]


def marked(thing):
    """A thing as that of a sum whose first side has none."""
    return (1, thing)


def paired(thing):
    """A thing behind the thing without letters."""
    return ((), thing)


def rolled(thing):
    """A row as no thing, or as its first thing and its rest."""
    return (1, (thing[0], thing[1:])) if len(thing) > 0 else (0, ())


def rolled_back(thing):
    """The row again, of its first thing and its rest."""
    if thing[0] == 0:
        return ()
    first, rest = thing[1]
    return (first,) + rest


def same(thing):
    """A name has just the things of its rule."""
    return thing


LEADS_THERE = {
    "swap": swapped, "turn": turned_about, "shift": shifted, "move": moved, "deal": dealt, "drop": second_of,
    "skip": second_of, "roll": rolled, "open": same,
}
LEADS_BACK = {
    "swap": swapped, "turn": turned_about, "shift": shifted_back, "move": moved_back, "deal": dealt_back,
    "drop": marked, "skip": paired, "roll": rolled_back, "open": same,
}
