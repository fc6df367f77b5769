"""What the tests share: wrong things, and things, orders and counts told straight from the document.

Nothing here uses the package, so that it is a second road to what the package tells.
"""

from functools import cmp_to_key, lru_cache
from itertools import permutations
from math import comb

NONE = ("none",)
UNIT = ("unit",)
A = ("atom", "a")
B = ("atom", "b")
C = ("atom", "c")
AB = ("sum", A, B)
ABC = ("sum", A, ("sum", B, C))
# Things of several sizes, some sizes with several things.
MIXED = ("sum", AB, ("pair", ABC, AB))
NAT = ("pair", A, ("row", A))
PLAIN = {"u": UNIT, "m": MIXED}

BUNCHES = ("row", "bag", "set")

# None of these is a making, a book, a letter, a word or a size.
JUNK = [
    True, False, None, -1, 41, 1.0, "", "A", "none!", "unit?", b"a", object(), (), ((),), (True,), (None,), ("",),
    ("a",), ("unit", "unit"), (1, 2), (("unit",),), [], ["unit"], [["unit"]], [("unit",)], [None], {}, {"a": 1},
    {"a": None}, {"a": "unit"}, {"a": ["unit"]}, {1: ("unit",)}, {None: ("unit",)}, {("unit",): ("unit",)},
    {"A": ("unit",)}, {"a": ("unit",), "b": True}, set(), {"unit"}, frozenset(),
]


def refused(case, error, ask, *args):
    """The refusal, which must be of that very class."""
    with case.assertRaises(error) as caught:
        ask(*args)
    case.assertIs(caught.exception.__class__, error)
    return caught.exception


def name(word):
    return ("name", word)


def total(*makings):
    """A sum of several makings."""
    return makings[0] if len(makings) == 1 else ("sum", makings[0], total(*makings[1:]))


def of_parts(many):
    """A making of so many parts that is nested as little as may be."""
    if many == 1:
        return UNIT
    if many == 2:
        return ("row", UNIT)
    half = (many - 1) // 2
    return ("sum", of_parts(half), of_parts(many - 1 - half))


def of_depth(deep, kind="row"):
    """A making in which the last part stands so deep."""
    return A if deep == 0 else (kind, of_depth(deep - 1, kind))


BY_HAND = {
    "unfolded": {"w": ("sum", UNIT, ("pair", A, name("w")))},
    "trees": {"t": ("sum", A, ("pair", name("t"), name("t")))},
    "bare trees": {"t": ("sum", UNIT, ("pair", A, ("pair", name("t"), name("t"))))},
    "trees of rows": {"t": ("pair", A, ("row", name("t")))},
    "trees of bags": {"t": ("pair", A, ("bag", name("t")))},
    "trees of sets": {"t": ("pair", AB, ("set", name("t")))},
    "trees of bags of sets": {"t": ("pair", A, ("bag", ("pair", B, ("set", name("t")))))},
    "two words": {"p": ("sum", A, ("pair", B, name("q"))), "q": ("sum", UNIT, ("pair", name("p"), name("p")))},
    "three words": {
        "p": ("pair", A, ("bag", name("q"))), "q": ("pair", B, ("row", ("pair", A, name("r")))),
        "r": ("sum", name("p"), ("set", name("p"))),
    },
    "no things": {
        "p": ("pair", name("p"), name("p")), "q": ("pair", A, name("p")), "r": ("sum", name("q"), ("row", name("q"))),
    },
    "late things": {"p": ("pair", name("q"), name("q")), "q": ("sum", ("pair", A, B), ("pair", name("q"), name("p")))},
    "bare on the left": {"p": ("sum", A, ("pair", ("pair", name("e"), B), name("p"))), "e": ("sum", UNIT, name("p"))},
    "bare on the right": {"p": ("sum", A, ("pair", name("p"), ("pair", B, name("e")))), "e": ("sum", UNIT, name("p"))},
}


def inner(making):
    return [] if making[0] in ("atom", "name") else list(making[1:])


def parts(making):
    return [making] + [part for one in inner(making) for part in parts(one)]


# Point [12].


def may_be_bare(book, making, steps=None):
    """As [12] tells it: what may be bare by so many steps through rules, at most one for each word."""
    steps = len(book) if steps is None else steps
    kind = making[0]
    if kind == "name":
        return steps > 0 and may_be_bare(book, book[making[1]], steps - 1)
    if kind == "sum":
        return any([may_be_bare(book, part, steps) for part in making[1:]])
    if kind == "pair":
        return all([may_be_bare(book, part, steps) for part in making[1:]])
    return kind == "unit" or kind in BUNCHES


def stands_bare(book, word, making):
    kind = making[0]
    if kind == "name":
        return making[1] == word
    if kind == "sum":
        return stands_bare(book, word, making[1]) or stands_bare(book, word, making[2])
    if kind == "pair":
        there = stands_bare(book, word, making[1]) and may_be_bare(book, making[2])
        return there or (stands_bare(book, word, making[2]) and may_be_bare(book, making[1]))
    return kind in BUNCHES and stands_bare(book, word, making[1])


def is_ring(book, words):
    ahead = words[-1:] + words[:-1]
    return all(stands_bare(book, word, book[other]) for word, other in zip(words, ahead))


def unfair(book):
    wrong = set()
    for word, rule in book.items():
        for part in parts(rule):
            if part[0] in BUNCHES and may_be_bare(book, part[1]):
                wrong.add(word)
    for many in range(1, len(book) + 1):
        for words in permutations(book, many):
            if is_ring(book, words):
                wrong.update(words)
    return sorted(wrong)


def is_of(book, making):
    return not any(part[0] in BUNCHES and may_be_bare(book, part[1]) for part in parts(making))


# Points [11] and [31].


class TooMany(Exception):
    pass


@lru_cache(maxsize=None)
def size(thing):
    if isinstance(thing, tuple):
        return sum(size(part) for part in thing)
    return 1 if isinstance(thing, str) else 0


def compare(book, making, one, other):
    """Below nought, nought or above, as one stands ahead of, at or behind another thing in the told order."""
    if size(one) != size(other):
        return size(one) - size(other)
    kind = making[0]
    if kind == "name":
        return compare(book, book[making[1]], one, other)
    if kind == "sum":
        return one[0] - other[0] or compare(book, making[1 + one[0]], one[1], other[1])
    if kind == "pair":
        return compare(book, making[1], one[0], other[0]) or compare(book, making[2], one[1], other[1])
    if kind in BUNCHES:
        for left, right in zip(one, other):
            if left != right:
                return compare(book, making[1], left, right)
    return 0


def rows(things, most, may_follow=lambda left, right: True):
    """All tuples of things up to a size, in which each thing may follow the one ahead of it."""
    found, last = {()}, {()}
    while last:
        last = {
            row + (thing,) for row in last for thing in things
            if size(row) + size(thing) <= most and (not row or may_follow(row[-1], thing))
        }
        found |= last
        if len(found) > 4000:
            raise TooMany
    return found


def made(book, known, making, most):
    kind = making[0]
    if kind == "none":
        return set()
    if kind == "unit":
        return {()}
    if kind == "atom":
        return {making[1]} if most >= 1 else set()
    if kind == "name":
        return known[making[1]]
    first = made(book, known, making[1], most)
    if kind == "row":
        return rows(first, most)
    if kind == "bag":
        return rows(first, most, lambda left, right: compare(book, making[1], left, right) <= 0)
    if kind == "set":
        return rows(first, most, lambda left, right: compare(book, making[1], left, right) < 0)
    second = made(book, known, making[2], most)
    if kind == "sum":
        return {(0, thing) for thing in first} | {(1, thing) for thing in second}
    return {(s, t) for s in first for t in second if size(s) + size(t) <= most}


def things(book, making, most):
    """All things up to a size: the words have none, then what their rules make of that, until nothing is new."""
    known = {word: set() for word in book}
    while True:
        grown = {word: made(book, known, rule, most) for word, rule in book.items()}
        if grown == known:
            return made(book, known, making, most)
        known = grown


def in_told_order(book, making, most):
    """All things up to a size in the told order."""
    found = sorted(things(book, making, most), key=cmp_to_key(lambda s, t: compare(book, making, s, t)))
    # The told order must part all things, or bags and sets would not be what they are said to be.
    assert all(compare(book, making, s, t) < 0 for s, t in zip(found, found[1:]))
    return found


def told_lists(book, making, most):
    """For each size up to most the list of things in the told order."""
    found = in_told_order(book, making, most)
    return [[thing for thing in found if size(thing) == k] for k in range(most + 1)]


def listed_counts(book, making, most):
    return [len(found) for found in told_lists(book, making, most)]


# Counts by whole series: a road for sizes too great for a listing.


def product(one, other):
    most = len(one) - 1
    return [sum(one[k] * other[n - k] for k in range(n + 1)) for n in range(most + 1)]


def bunched(one, choose):
    """The product, for each size, of the ways to choose so many things of it."""
    most = len(one) - 1
    told = [1] + [0] * most
    for k in range(1, most + 1):
        factor = [choose(one[k], n // k) if n % k == 0 else 0 for n in range(most + 1)]
        told = product(told, factor)
    return told


def with_repeats(many, times):
    return comb(many + times - 1, times) if times else 1


def row_series(one):
    told = [1]
    for n in range(1, len(one)):
        told.append(sum(one[k] * told[n - k] for k in range(1, n + 1)))
    return told


def series(known, making, most):
    kind = making[0]
    if kind in ("none", "unit", "atom"):
        at = {"none": None, "unit": 0, "atom": 1}[kind]
        return [1 if n == at else 0 for n in range(most + 1)]
    if kind == "name":
        return known[making[1]]
    one = series(known, making[1], most)
    if kind == "row":
        return row_series(one)
    if kind == "bag":
        return bunched(one, with_repeats)
    if kind == "set":
        return bunched(one, comb)
    other = series(known, making[2], most)
    return product(one, other) if kind == "pair" else [x + y for x, y in zip(one, other)]


def series_counts(book, making, most):
    """The counts by series that grow until the rules change them no more."""
    known = {word: [0] * (most + 1) for word in book}
    while True:
        grown = {word: series(known, rule, most) for word, rule in book.items()}
        if grown == known:
            return series(known, making, most)
        known = grown


# Makings and books that many tests go through.

EVERY_KIND = [
    NONE, UNIT, A, AB, ABC, MIXED, ("sum", UNIT, A), ("sum", UNIT, UNIT), ("sum", NONE, B), ("pair", A, B),
    ("pair", UNIT, A), ("pair", NONE, A), ("pair", A, NONE), ("pair", ABC, ABC), name("u"), ("pair", name("u"), A),
    ("pair", ("sum", UNIT, AB), ("sum", UNIT, ABC)),
]
EVERY_BUNCH = [
    making for kind in BUNCHES for making in [
        *[(kind, part) for part in (NONE, A, AB, ABC, MIXED, NAT, ("pair", AB, ("sum", UNIT, AB)), ("pair", A, NONE),
                                    ("sum", A, ("pair", A, ("pair", A, A))))],
        ("pair", (kind, AB), (kind, A)), ("sum", (kind, AB), (kind, AB)),
        *[(kind, ("pair", A, (within, A))) for within in BUNCHES],
        *[(kind, ("pair", AB, (within, AB))) for within in BUNCHES],
        *[(kind, ("sum", A, ("pair", (within, name("m")), B))) for within in BUNCHES],
    ]
]


def small_cases(chance, many):
    """Books and makings of every kind, by hand and by chance, whose things up to size 4 are few."""
    for making in EVERY_KIND + EVERY_BUNCH:
        yield PLAIN, making
    for book in BY_HAND.values():
        for word in book:
            yield book, name(word)
            if not may_be_bare(book, name(word)):
                yield from [(book, (kind, name(word))) for kind in BUNCHES]
    while many:
        book = some_fair_book(chance, chance.randint(1, 3), 3)
        making = some_making_of(chance, book, 3)
        try:
            found = len(things(book, making, 4))
        except TooMany:
            continue
        # Makings without things say little, and come up often.
        if found > 3:
            many -= 1
            yield book, making


# Makings by chance that is the same each time.


def some_making(chance, words, deep):
    kinds = ["none", "unit", "atom", "atom", "name", "name"]
    if deep > 0:
        kinds += ["sum", "sum", "pair", "pair", "pair", "row", "bag", "set"]
    kind = chance.choice(kinds)
    if kind == "atom":
        return (kind, chance.choice("ab"))
    if kind == "name":
        return (kind, chance.choice(words))
    many = {"none": 0, "unit": 0, "sum": 2, "pair": 2}.get(kind, 1)
    return (kind,) + tuple(some_making(chance, words, deep - 1) for _ in range(many))


def some_book(chance, many, deep):
    words = ["p", "q", "r", "s"][:many]
    return {word: some_making(chance, words, deep) for word in words}


def some_fair_book(chance, many, deep):
    while True:
        book = some_book(chance, many, deep)
        if not unfair(book):
            return book


def some_making_of(chance, book, deep):
    while True:
        making = some_making(chance, list(book), deep)
        if is_of(book, making):
            return making


def crowded(chance, words, many, deep):
    """A making of just so many parts, nested no deeper than that, in which rows, bags and sets are of fair makings."""
    if many == 1:
        return chance.choice([A, B, UNIT, name(chance.choice(words)), name(chance.choice(words))])
    if many == 2:
        return (chance.choice(BUNCHES), chance.choice([A, B]))
    room = 2 ** deep - 1
    if many >= 4 and many - 3 <= 2 ** (deep - 1) - 1 and chance.random() < 0.4:
        return (chance.choice(BUNCHES), ("pair", A, crowded(chance, words, many - 3, deep - 2)))
    least, most = max(1, many - 1 - room), min(room, many - 2)
    left = chance.randint(least, most)
    kind = chance.choice(["sum", "pair"])
    return (kind, crowded(chance, words, left, deep - 1), crowded(chance, words, many - 1 - left, deep - 1))


def crowded_book(chance):
    words = ["a", "bb", "ccc", "dddd", "eeeee", "ffffff", "ggggggg", "hhhhhhhh"]
    return {word: ("pair", A, crowded(chance, words, 38, 5)) for word in words}
