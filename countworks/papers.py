"""Papers of steps: lists of rules that lead the things of one making to those of another, one to one."""

from countworks.books import need_of
from countworks.errors import NoStep
from countworks.leads import LEADS_BACK, LEADS_THERE
from countworks.makings import is_making, is_word
from countworks.things import is_mark, need_thing

MOST_STEPS = 30

# The two sides of each rule but open; a text stands for any making, the same text for the same making.
SIDES = {
    "swap": (("sum", "x", "y"), ("sum", "y", "x")),
    "turn": (("pair", "x", "y"), ("pair", "y", "x")),
    "shift": (("sum", "x", ("sum", "y", "z")), ("sum", ("sum", "x", "y"), "z")),
    "move": (("pair", "x", ("pair", "y", "z")), ("pair", ("pair", "x", "y"), "z")),
    "deal": (("pair", "x", ("sum", "y", "z")), ("sum", ("pair", "x", "y"), ("pair", "x", "z"))),
    "drop": (("sum", ("none",), "x"), "x"),
    "skip": (("pair", ("unit",), "x"), "x"),
    "roll": (("row", "x"), ("sum", ("unit",), ("pair", "x", ("row", "x")))),
}


def is_rule(thing):
    """Whether a thing is the name of a rule."""
    return isinstance(thing, str) and (thing in SIDES or thing == "open")


def is_path(thing):
    """Whether a thing is a tuple of 0 and 1."""
    return isinstance(thing, tuple) and all(is_mark(side) for side in thing)


def is_step(thing):
    """Whether a thing is a step, whatever it fits."""
    if not isinstance(thing, tuple) or not 3 <= len(thing) <= 4:
        return False
    rule, path, way = thing[:3]
    if not is_rule(rule) or not is_path(path):
        return False
    if not isinstance(way, str) or way not in ("there", "back"):
        return False
    if rule == "open" and way == "back":
        return len(thing) == 4 and is_word(thing[3])
    return len(thing) == 3


def part_at(making, path):
    """The making within a making to which a path leads, or None."""
    part = making
    for side in path:
        if part[0] not in ("sum", "pair", "row") or side + 1 >= len(part):
            return None
        part = part[side + 1]
    return part


def with_part(making, path, part):
    """A making with another part where a path leads."""
    if len(path) == 0:
        return part
    at = path[0] + 1
    return making[:at] + (with_part(making[at], path[1:], part),) + making[at + 1:]


def fits(side, making, found):
    """Whether a making has the form of a rule's side; found keeps what its texts stand for."""
    if isinstance(side, str):
        return found.setdefault(side, making) == making
    if making[0] != side[0]:
        return False
    return all(fits(inner, part, found) for inner, part in zip(side[1:], making[1:]))


def filled(side, found):
    """The making that a rule's side tells, with what its texts stand for."""
    if isinstance(side, str):
        return found[side]
    return side[:1] + tuple([filled(inner, found) for inner in side[1:]])


def renamed(book, step, part):
    """What a step by the rule open makes of the part at its place, or None."""
    if step[2] == "there":
        return book[part[1]] if part[0] == "name" else None
    word = step[3]
    return ("name", word) if word in book and book[word] == part else None


def changed(book, step, part):
    """What a step makes of the part at its place, or None."""
    if step[0] == "open":
        return renamed(book, step, part)
    first, second = SIDES[step[0]] if step[2] == "there" else SIDES[step[0]][::-1]
    found = {}
    return filled(second, found) if fits(first, part, found) else None


def behind(book, making, step):
    """The making behind any thing as a step, or None where it is no step or does not fit."""
    if not is_step(step):
        return None
    part = part_at(making, step[1])
    new = None if part is None else changed(book, step, part)
    if new is None:
        return None
    told = with_part(making, step[1], new)
    # Steps name only words of the book and keep what may be bare, so each making behind one is of the book.
    return told if is_making(told) else None


def stops(book, making, paper):
    """The makings along a paper, from the first one to the one behind all."""
    if not isinstance(paper, list) or len(paper) > MOST_STEPS:
        raise NoStep(None)
    told = [making]
    for at, step in enumerate(paper):
        new = behind(book, told[at], step)
        if new is None:
            raise NoStep(at)
        told.append(new)
    return told


def led_within(making, path, lead, thing):
    """A thing of a making, in which what stands where the path leads is led."""
    if len(path) == 0:
        return lead(thing)
    side = path[0]
    part = making[side + 1]
    if making[0] == "row":
        return tuple([led_within(part, path[1:], lead, one) for one in thing])
    if making[0] == "sum":
        return (side, led_within(part, path[1:], lead, thing[1])) if thing[0] == side else thing
    new = led_within(part, path[1:], lead, thing[side])
    return (new, thing[1]) if side == 0 else (thing[0], new)


def led_along(makings, paper, thing):
    """A thing of the first making led by all steps, each of which fits the making at its place."""
    for making, step in zip(makings, paper):
        lead = LEADS_THERE[step[0]] if step[2] == "there" else LEADS_BACK[step[0]]
        thing = led_within(making, step[1], lead, thing)
    return thing


def turned_step(making, step):
    """The step that leads back to a making that the step fits."""
    rule, path, way = step[:3]
    if way == "back":
        return (rule, path, "there")
    fourth = part_at(making, path)[1:] if rule == "open" else ()
    return (rule, path, "back") + fourth


def turned_along(makings, paper):
    """The paper back."""
    return [turned_step(making, step) for making, step in zip(makings, paper)][::-1]


def step_makes(book, making, step):
    """The making behind a step."""
    need_of(book, making)
    told = behind(book, making, step)
    if told is None:
        raise NoStep(None)
    return told


def paper_makes(book, making, paper):
    """The making behind all steps of a paper."""
    need_of(book, making)
    return stops(book, making, paper)[-1]


def led(book, making, paper, thing):
    """The thing of the making behind to which a thing of the making is led."""
    need_of(book, making)
    makings = stops(book, making, paper)
    need_thing(book, making, thing)
    return led_along(makings, paper, thing)


def led_back(book, making, paper, thing):
    """The thing of the making that is led to a thing of the making behind."""
    need_of(book, making)
    makings = stops(book, making, paper)
    need_thing(book, makings[-1], thing)
    return led_along(makings[::-1], turned_along(makings, paper), thing)


def turned(book, making, paper):
    """The paper that leads back from the making behind."""
    need_of(book, making)
    return turned_along(stops(book, making, paper), paper)


def shows_alike(book, one, other, paper):
    """Whether any thing is a paper that leads from one making to the other."""
    need_of(book, one)
    need_of(book, other)
    try:
        return stops(book, one, paper)[-1] == other
    except NoStep:
        return False
