"""Papers of steps: [81], [82] and the interface of stage 8, with [2] and [3] as far as papers hang on it."""

import copy
import random
import time
import unittest

from countworks.errors import BadBook, BadMaking, BadThing, NoRule, NoStep
from countworks.papers import led, led_back, paper_makes, shows_alike, step_makes, turned
from tests.helper import (
    A, AB, ABC, B, BY_HAND, C, JUNK, MIXED, NAT, NONE, PLAIN, UNIT, TooMany, in_told_order, is_of, name, of_parts,
    parts, refused, size, some_fair_book, some_making_of,
)

BOOK = {
    "w": ("sum", UNIT, ("pair", A, name("w"))), "u": UNIT, "m": MIXED, "t": ("pair", A, ("bag", name("t"))), "row": NAT,
}
RULES = ["swap", "turn", "shift", "move", "deal", "drop", "skip", "roll", "open"]
WAYS = ["there", "back"]

# A making on each side of each rule, with x, y, z as many as it has.
SIDES = {
    "swap": (lambda x, y, z: ("sum", x, y), lambda x, y, z: ("sum", y, x)),
    "turn": (lambda x, y, z: ("pair", x, y), lambda x, y, z: ("pair", y, x)),
    "shift": (lambda x, y, z: ("sum", x, ("sum", y, z)), lambda x, y, z: ("sum", ("sum", x, y), z)),
    "move": (lambda x, y, z: ("pair", x, ("pair", y, z)), lambda x, y, z: ("pair", ("pair", x, y), z)),
    "deal": (lambda x, y, z: ("pair", x, ("sum", y, z)), lambda x, y, z: ("sum", ("pair", x, y), ("pair", x, z))),
    "drop": (lambda x, y, z: ("sum", NONE, x), lambda x, y, z: x),
    "skip": (lambda x, y, z: ("pair", UNIT, x), lambda x, y, z: x),
    "roll": (lambda x, y, z: ("row", x), lambda x, y, z: ("sum", UNIT, ("pair", x, ("row", x)))),
}

# How things go there, x, y, z being things of the makings so called.
THINGS = {
    "swap": [((0, "x"), (1, "x")), ((1, "y"), (0, "y"))],
    "turn": [(("x", "y"), ("y", "x"))],
    "shift": [((0, "x"), (0, (0, "x"))), ((1, (0, "y")), (0, (1, "y"))), ((1, (1, "z")), (1, "z"))],
    "move": [(("x", ("y", "z")), (("x", "y"), "z"))],
    "deal": [(("x", (0, "y")), (0, ("x", "y"))), (("x", (1, "z")), (1, ("x", "z")))],
    "drop": [((1, "x"), "x")],
    "skip": [(((), "x"), "x")],
    "roll": [((), (0, ())), (("x",), (1, ("x", ()))), (("x", "x", "x"), (1, ("x", ("x", "x"))))],
}

# None of these is a step that fits anything.
NO_STEPS = JUNK + [
    (), ("swap",), ("swap", ()), ("swap", (), "there", "w"), ("swap", (), "there", None), ("swap", (), "here"),
    ("swap", (), "There"), ("swap", (), None), ("swap", (), True), ("swap", (), ("there",)), ("swap", (), ["there"]),
    ("Swap", (), "there"), ("swop", (), "there"), ("", (), "there"), (None, (), "there"), (["swap"], (), "there"),
    (("swap",), (), "there"), ({}, (), "there"), ("swap", [], "there"), ("swap", None, "there"), ("swap", "", "there"),
    ("swap", 0, "there"), ("swap", ((),), "there"), ("swap", (2,), "there"), ("swap", (-1,), "there"),
    ("swap", (True,), "there"), ("swap", (False,), "there"), ("swap", (0, True), "there"), ("swap", ("0",), "there"),
    ("swap", (0.0,), "there"), ("swap", ([],), "there"), ("swap", (None,), "there"), ["swap", (), "there"],
    [("swap", (), "there")], {"swap": ()}, "swap", ("swap", (), "there", "back", "there"), (0, 1, 2), ((), (), ()),
    ("there", (), "swap"), (True, True, True), (None, None, None), ("open", (), "there", "w"), ("open", (), "back"),
    ("open", (), "back", None), ("open", (), "back", "W"), ("open", (), "back", ""), ("open", (), "back", ["w"]),
    ("open", (), "back", ("w",)), ("open", (), "back", True), ("open", (), "back", "w", "w"), ("open", (), "back", "zz"),
    ("drop", (), "back", "w"), ("skip", (), "back", "w"), ("swap", {}, "there"), ({"swap": 1}, {}, {}),
    ("open", (), "back", "abcdefghi"),
]


def at(making, path):
    for side in path:
        making = making[side + 1]
    return making


def with_part(making, path, part):
    if not path:
        return part
    told = list(making)
    told[path[0] + 1] = with_part(making[path[0] + 1], path[1:], part)
    return tuple(told)


def paths(making):
    """All paths that lead anywhere in a making."""
    found = [()]
    if making[0] in ("sum", "pair", "row"):
        for side, part in enumerate(making[1:]):
            found += [(side, *path) for path in paths(part)]
    return found


def turned_by(book, making, rule, way, word=None):
    """What a rule turns a making into, or None."""
    match rule, way, making:
        case "swap", _, ("sum", x, y):
            return ("sum", y, x)
        case "turn", _, ("pair", x, y):
            return ("pair", y, x)
        case ("shift", "there", ("sum", x, ("sum", y, z))):
            return ("sum", ("sum", x, y), z)
        case ("shift", "back", ("sum", ("sum", x, y), z)):
            return ("sum", x, ("sum", y, z))
        case ("move", "there", ("pair", x, ("pair", y, z))):
            return ("pair", ("pair", x, y), z)
        case ("move", "back", ("pair", ("pair", x, y), z)):
            return ("pair", x, ("pair", y, z))
        case ("deal", "there", ("pair", x, ("sum", y, z))):
            return ("sum", ("pair", x, y), ("pair", x, z))
        case ("deal", "back", ("sum", ("pair", x, y), ("pair", same, z))) if x == same:
            return ("pair", x, ("sum", y, z))
        case ("drop", "there", ("sum", ("none",), x)) | ("skip", "there", ("pair", ("unit",), x)):
            return x
        case ("drop", "back", x):
            return ("sum", ("none",), x)
        case ("skip", "back", x):
            return ("pair", ("unit",), x)
        case ("roll", "there", ("row", x)):
            return ("sum", ("unit",), ("pair", x, ("row", x)))
        case ("roll", "back", ("sum", ("unit",), ("pair", x, ("row", same)))) if x == same:
            return ("row", x)
        case ("open", "there", ("name", known)):
            return book[known]
        case ("open", "back", x) if book.get(word) == x:
            return ("name", word)
    return None


def depth(making):
    inner = [part for part in making[1:] if isinstance(part, tuple)]
    return 1 + max(map(depth, inner)) if inner else 0


def all_steps(book, making):
    """All steps that fit a making, each with the making behind."""
    for path in paths(making):
        for rule in RULES:
            for way in WAYS:
                words = list(book) if (rule, way) == ("open", "back") else [None]
                for word in words:
                    new = turned_by(book, at(making, path), rule, way, word)
                    told = None if new is None else with_part(making, path, new)
                    if told is not None and len(parts(told)) <= 40 and depth(told) <= 6:
                        yield (rule, path, way) + (() if word is None else (word,)), told


def some_paper(chance, book, making, many):
    """A paper of so many steps by chance, and the making behind; steps that make less are liked more."""
    paper = []
    for _ in range(many):
        found = list(all_steps(book, making))
        tame = [one for one in found if one[0][:1] not in (("drop",), ("skip",)) or one[0][2] == "there"]
        step, making = chance.choice(tame if tame and chance.random() < 0.8 else found)
        paper.append(step)
    return paper, making


def cases(chance, many):
    for making in (A, AB, ABC, MIXED, NAT, ("row", AB), ("row", ("pair", AB, ABC)), ("pair", ("row", AB), ("row", A)),
                   name("w"), ("row", ("pair", A, name("w"))), ("bag", AB), ("pair", ("set", AB), ABC), name("t"),
                   ("row", ("sum", ("pair", UNIT, A), ("sum", NONE, B))), ("pair", ABC, ("pair", AB, AB)), name("row")):
        yield BOOK, making
    while many:
        book = some_fair_book(chance, chance.randint(1, 3), 3)
        making = some_making_of(chance, book, 4)
        try:
            found = len(in_told_order(book, making, 3))
        except TooMany:
            continue
        if 2 < found < 400 and len(parts(making)) <= 30:
            many -= 1
            yield book, making


class StepMakesTest(unittest.TestCase):
    def no_step(self, book, making, step):
        self.assertIsNone(refused(self, NoStep, step_makes, book, making, step).spot)

    def test_each_rule_there_and_back(self):
        for rule, (first, second) in SIDES.items():
            for x, y, z in ((A, B, C), (NAT, UNIT, ("bag", A)), (name("row"), NONE, AB), (A, A, A)):
                one, other = first(x, y, z), second(x, y, z)
                self.assertEqual(step_makes(BOOK, one, (rule, (), "there")), other)
                self.assertEqual(step_makes(BOOK, other, (rule, (), "back")), one)

    def test_open(self):
        for word, rule in BOOK.items():
            self.assertEqual(step_makes(BOOK, name(word), ("open", (), "there")), rule)
            self.assertEqual(step_makes(BOOK, rule, ("open", (), "back", word)), name(word))
        twins = {"v": A, "w": A, "x": B}
        self.assertEqual(step_makes(twins, A, ("open", (), "back", "v")), name("v"))
        self.assertEqual(step_makes(twins, A, ("open", (), "back", "w")), name("w"))
        self.no_step(twins, A, ("open", (), "back", "x"))
        self.no_step(twins, A, ("open", (), "back", "y"))
        self.no_step(twins, A, ("open", (), "there"))
        self.no_step(twins, name("v"), ("open", (), "back", "v"))
        chain = {"v": name("w"), "w": A}
        self.assertEqual(step_makes(chain, name("w"), ("open", (), "back", "v")), name("v"))

    def test_deep_paths(self):
        for rule, (first, second) in SIDES.items():
            one, other = first(A, B, C), second(A, B, C)
            for around in (lambda part: ("sum", part, UNIT), lambda part: ("sum", UNIT, part), lambda part: ("pair", part, C),
                           lambda part: ("pair", C, part), lambda part: ("pair", A, ("sum", B, ("pair", part, C))),
                           lambda part: ("row", ("pair", A, part)), lambda part: ("sum", A, ("row", ("pair", part, B)))):
                path = next(path for path in paths(around(one)) if at(around(one), path) == one)
                self.assertEqual(step_makes(BOOK, around(one), (rule, path, "there")), around(other))
                self.assertEqual(step_makes(BOOK, around(other), (rule, path, "back")), around(one))

    def test_all_steps_of_many_makings(self):
        words = sorted(set(BOOK) | {"p", "q", "zz"})
        for book, making in cases(random.Random(81), 25):
            fitting = dict(all_steps(book, making))
            every = paths(making) + [path + (side,) for path in paths(making) for side in (0, 1)]
            for path in sorted(set(every)):
                for rule in RULES:
                    for way in WAYS:
                        fourths = [(word,) for word in words] if (rule, way) == ("open", "back") else [()]
                        for fourth in fourths:
                            step = (rule, path, way, *fourth)
                            if step in fitting:
                                self.assertEqual(step_makes(book, making, step), fitting[step])
                            else:
                                self.no_step(book, making, step)

    def test_paths_that_lead_nowhere(self):
        for making, path in (
            (A, (0,)), (A, (1,)), (UNIT, (0,)), (NONE, (0,)), (name("w"), (0,)), (name("u"), (1,)), (("bag", A), (0,)),
            (("set", AB), (0,)), (("bag", AB), (0, 0)), (("row", A), (1,)), (("row", AB), (1, 0)), (("row", A), (0, 0)),
            (AB, (0, 0)), (("pair", A, ("bag", B)), (1, 0)), (("row", ("pair", A, ("set", B))), (0, 1, 0)),
            (AB, (0,) * 7), (AB, (1,) * 5000), (("row", A), (0,) * 5000),
        ):
            for rule in ("drop", "skip"):
                self.no_step(BOOK, making, (rule, path, "back"))

    def test_bags_and_sets_themselves_are_reached(self):
        for kind in ("bag", "set"):
            making = ("pair", (kind, A), B)
            self.assertEqual(step_makes(BOOK, making, ("drop", (0,), "back")), ("pair", ("sum", NONE, (kind, A)), B))
            self.assertEqual(step_makes(BOOK, making, ("turn", (), "there")), ("pair", B, (kind, A)))

    def test_what_must_be_the_same(self):
        self.no_step(BOOK, ("sum", ("pair", A, B), ("pair", B, C)), ("deal", (), "back"))
        self.no_step(BOOK, ("sum", UNIT, ("pair", A, ("row", B))), ("roll", (), "back"))
        self.no_step(BOOK, ("sum", name("u"), ("pair", A, ("row", A))), ("roll", (), "back"))
        self.no_step(BOOK, ("sum", ("pair", NONE, A), B), ("drop", (), "there"))
        self.no_step(BOOK, ("sum", A, NONE), ("drop", (), "there"))
        self.no_step(BOOK, ("pair", A, UNIT), ("skip", (), "there"))
        self.no_step(BOOK, ("pair", name("u"), A), ("skip", (), "there"))

    def test_no_steps(self):
        for making in (AB, A, ("pair", AB, AB), ("row", A), name("w"), BOOK["w"]):
            for bad in NO_STEPS:
                with self.subTest(bad=bad):
                    self.no_step(BOOK, making, bad)

    def test_too_many_parts(self):
        making = of_parts_plain(38)
        self.assertEqual(len(parts(step_makes(BOOK, making, ("drop", (), "back")))), 40)
        for many in (39, 40):
            self.no_step(BOOK, of_parts_plain(many), ("drop", (0,), "back"))
            self.no_step(BOOK, of_parts_plain(many), ("skip", (1,), "back"))
        deal = ("pair", of_parts_plain(18), AB)
        self.assertEqual(len(parts(step_makes(BOOK, ("pair", of_parts_plain(17), AB), ("deal", (), "there")))), 39)
        self.no_step(BOOK, ("sum", deal, UNIT), ("deal", (0,), "there"))
        self.no_step(BOOK, ("row", ("pair", A, of_parts_plain(18))), ("roll", (), "there"))

    def test_too_deep(self):
        five = ("pair", A, ("pair", A, ("pair", A, ("pair", A, ("row", A)))))
        six = ("pair", A, five)
        self.assertEqual(step_makes(BOOK, five, ("skip", (), "back")), ("pair", UNIT, five))
        self.no_step(BOOK, six, ("skip", (), "back"))
        self.no_step(BOOK, six, ("drop", (1, 1, 1, 1, 1, 0), "back"))
        self.assertEqual(depth(step_makes(BOOK, six, ("drop", (1, 1, 1, 1, 0), "back"))), 6)
        self.no_step(BOOK, six, ("roll", (1, 1, 1, 1, 1), "there"))
        deep = ("pair", A, ("pair", A, ("pair", A, ("pair", A, name("m")))))
        self.no_step(BOOK, ("pair", A, deep), ("open", (1, 1, 1, 1, 1), "there"))
        book = {"w": five, "v": ("pair", A, name("w"))}
        self.assertEqual(depth(step_makes(book, book["v"], ("open", (1,), "there"))), 6)
        self.no_step(book, ("pair", A, book["v"]), ("open", (1, 1), "there"))

    def test_the_making_behind_is_always_of_the_book(self):
        for book, making in cases(random.Random(82), 20):
            for step, told in all_steps(book, making):
                self.assertTrue(is_of(book, told))


def of_parts_plain(many):
    """A making of so many parts that is fair anywhere, nested as little as may be."""
    if many == 1:
        return A
    if many == 2:
        return ("row", A)
    half = (many - 1) // 2
    return ("sum", of_parts_plain(half), of_parts_plain(many - 1 - half))


class PaperMakesTest(unittest.TestCase):
    def test_by_hand(self):
        paper = [("roll", (), "there"), ("swap", (), "there"), ("turn", (0,), "there"), ("roll", (0, 0), "there"),
                 ("swap", (0, 0), "back")]
        self.assertEqual(paper_makes(BOOK, ("row", A), paper),
                         ("sum", ("pair", ("sum", ("pair", A, ("row", A)), UNIT), A), UNIT))
        self.assertEqual(paper_makes(BOOK, ("row", A), []), ("row", A))

    def test_by_chance(self):
        chance = random.Random(83)
        for book, making in cases(chance, 20):
            for many in (1, 3, 8):
                paper, told = some_paper(chance, book, making, many)
                self.assertEqual(paper_makes(book, making, paper), told)

    def test_the_first_that_does_not_fit(self):
        good = ("swap", (), "there")
        for bad in NO_STEPS + [("turn", (), "there"), ("swap", (0,), "there"), ("open", (), "back", "u")]:
            for place in (0, 1, 4, 29):
                paper = [good] * place + [bad] + [None, bad, good][:29 - place]
                for ask in (lambda: paper_makes(BOOK, AB, paper), lambda: turned(BOOK, AB, paper),
                            lambda: led(BOOK, AB, paper, (0, "a")), lambda: led_back(BOOK, AB, paper, (0, "a"))):
                    self.assertEqual(refused(self, NoStep, ask).spot, place)
                self.assertIs(shows_alike(BOOK, AB, AB, paper), False)

    def test_what_fits_only_at_first(self):
        self.assertEqual(refused(self, NoStep, paper_makes, BOOK, ("row", A), [("roll", (), "there")] * 2).spot, 1)
        grow = [("drop", (), "back")] * 8
        self.assertEqual(refused(self, NoStep, paper_makes, BOOK, A, grow).spot, 6)
        self.assertEqual(paper_makes(BOOK, A, grow[:6])[0], "sum")

    def test_30_and_31_steps(self):
        for many in (0, 1, 29, 30):
            told = AB if many % 2 == 0 else ("sum", B, A)
            self.assertEqual(paper_makes(BOOK, AB, [("swap", (), "there")] * many), told)
        for many in (31, 32, 100):
            for paper in ([("swap", (), "there")] * many, [None] * many):
                self.assertIsNone(refused(self, NoStep, paper_makes, BOOK, AB, paper).spot)
                self.assertIsNone(refused(self, NoStep, turned, BOOK, AB, paper).spot)
                self.assertIsNone(refused(self, NoStep, led, BOOK, AB, paper, None).spot)
                self.assertIsNone(refused(self, NoStep, led_back, BOOK, AB, paper, None).spot)
                self.assertIs(shows_alike(BOOK, AB, AB, paper), False)

    def test_no_lists(self):
        step = ("swap", (), "there")
        for bad in [thing for thing in JUNK if not isinstance(thing, list)] + [(step,), step, "swap", {0: step}, (), ""]:
            for ask in (lambda: paper_makes(BOOK, AB, bad), lambda: turned(BOOK, AB, bad),
                        lambda: led(BOOK, AB, bad, (0, "a")), lambda: led_back(BOOK, AB, bad, (0, "a"))):
                with self.subTest(bad=bad):
                    self.assertIsNone(refused(self, NoStep, ask).spot)
            self.assertIs(shows_alike(BOOK, AB, AB, bad), False)


class LedTest(unittest.TestCase):
    def test_each_rule_by_hand(self):
        letters = {"x": "a", "y": "b", "z": "c"}

        def thing(form):
            if isinstance(form, tuple):
                return tuple(thing(part) for part in form)
            return letters.get(form, form)

        for rule, (first, second) in SIDES.items():
            one, other = first(A, B, C), second(A, B, C)
            for here, there in THINGS[rule]:
                here, there = thing(here), thing(there)
                self.assertEqual(led(BOOK, one, [(rule, (), "there")], here), there)
                self.assertEqual(led_back(BOOK, one, [(rule, (), "there")], there), here)
                self.assertEqual(led(BOOK, other, [(rule, (), "back")], there), here)
                self.assertEqual(led_back(BOOK, other, [(rule, (), "back")], here), there)

    def test_like_makings(self):
        self.assertEqual(led(BOOK, ("sum", A, A), [("swap", (), "there")], (0, "a")), (1, "a"))
        self.assertEqual(led(BOOK, ("pair", AB, AB), [("turn", (), "back")], ((0, "a"), (1, "b"))), ((1, "b"), (0, "a")))
        alike = ("sum", A, ("sum", A, A))
        self.assertEqual(led(BOOK, alike, [("shift", (), "there")], (1, (0, "a"))), (0, (1, "a")))
        self.assertEqual(led(BOOK, ("sum", alike[2], A), [("shift", (), "back")], (0, (1, "a"))), (1, (0, "a")))

    def test_open_leads_to_itself(self):
        for thing in ((0, ()), (1, ("a", (0, ()))), (1, ("a", (1, ("a", (0, ())))))):
            self.assertEqual(led(BOOK, name("w"), [("open", (), "there")], thing), thing)
            self.assertEqual(led(BOOK, BOOK["w"], [("open", (), "back", "w")], thing), thing)

    def test_under_rows_sums_and_pairs(self):
        swap = [("swap", (0,), "there")]
        self.assertEqual(led(BOOK, ("row", AB), swap, ((0, "a"), (1, "b"), (0, "a"))), ((1, "a"), (0, "b"), (1, "a")))
        self.assertEqual(led(BOOK, ("row", AB), swap, ()), ())
        self.assertEqual(led(BOOK, ("sum", AB, AB), swap, (0, (0, "a"))), (0, (1, "a")))
        self.assertEqual(led(BOOK, ("sum", AB, AB), swap, (1, (0, "a"))), (1, (0, "a")))
        self.assertEqual(led(BOOK, ("pair", AB, AB), swap, ((0, "a"), (0, "a"))), ((1, "a"), (0, "a")))
        self.assertEqual(led(BOOK, ("pair", AB, AB), [("swap", (1,), "there")], ((0, "a"), (0, "a"))), ((0, "a"), (1, "a")))
        rows = ("row", ("pair", A, ("row", AB)))
        self.assertEqual(led(BOOK, rows, [("swap", (0, 1, 0), "there")], (("a", ((0, "a"),)), ("a", ()), ("a", ((1, "b"), (0, "a"))))),
                         (("a", ((1, "a"),)), ("a", ()), ("a", ((0, "b"), (1, "a")))))
        self.assertEqual(led(BOOK, ("row", ("pair", UNIT, A)), [("skip", (0,), "there")], (((), "a"), ((), "a"))), ("a", "a"))

    def told(self, book, making, paper, behind, most):
        """All things up to a size come to all things behind, each once, sizes kept, and back."""
        found = in_told_order(book, making, most)
        images = [led(book, making, paper, thing) for thing in found]
        self.assertEqual([size(thing) for thing in images], [size(thing) for thing in found])
        there = in_told_order(book, behind, most)
        self.assertEqual(len(images), len(there))
        self.assertEqual(set(images), set(there))
        back = turned(book, making, paper)
        for thing, image in zip(found, images):
            self.assertEqual(led_back(book, making, paper, image), thing)
            self.assertEqual(led(book, behind, back, image), thing)
            self.assertEqual(led_back(book, behind, back, thing), image)

    def test_all_things_by_each_step(self):
        for book, making in cases(random.Random(84), 12):
            for step, behind in all_steps(book, making):
                with self.subTest(book=book, making=making, step=step):
                    self.told(book, making, [step], behind, 2)

    def test_all_things_by_papers(self):
        chance = random.Random(85)
        for book, making in cases(chance, 12):
            for many in (0, 2, 5, 12):
                paper, behind = some_paper(chance, book, making, many)
                with self.subTest(book=book, making=making, paper=paper):
                    try:
                        self.told(book, making, paper, behind, 3)
                    except TooMany:
                        pass

    def test_step_by_step(self):
        chance = random.Random(86)
        for book, making in cases(chance, 6):
            paper, behind = some_paper(chance, book, making, 6)
            for thing in in_told_order(book, making, 3)[:40]:
                part, on_the_way = making, thing
                for step in paper:
                    on_the_way = led(book, part, [step], on_the_way)
                    part = step_makes(book, part, step)
                self.assertEqual(on_the_way, led(book, making, paper, thing))

    def test_no_things(self):
        swap = [("swap", (), "there")]
        for bad in JUNK + ["a", (0, "b"), (1, "a"), (False, "a"), (True, "b"), [0, "a"], (0, "a", "a"), (0,), (2, "a")]:
            with self.subTest(bad=bad):
                refused(self, BadThing, led, BOOK, AB, swap, bad)
                refused(self, BadThing, led, BOOK, AB, [], bad)
                refused(self, BadThing, led_back, BOOK, AB, [], bad)
        for bad in JUNK + ["a", (0, "a"), (1, "b"), (False, "b"), [0, "b"]]:
            with self.subTest(bad=bad):
                refused(self, BadThing, led_back, BOOK, AB, swap, bad)
        refused(self, BadThing, led, BOOK, ("bag", AB), [("drop", (), "back")], ((1, "b"), (0, "a")))

    def test_no_step_ahead_of_no_thing(self):
        for bad in (None, "a", (0, "b"), True, [], ()):
            for ask in (led, led_back):
                self.assertEqual(refused(self, NoStep, ask, BOOK, AB, [("swap", (), "there"), ("turn", (), "there")], bad).spot, 1)
                self.assertIsNone(refused(self, NoStep, ask, BOOK, AB, None, bad).spot)

    def test_deep_and_great_things(self):
        begin = time.perf_counter()
        thing = (0, ())
        for _ in range(20000):
            thing = (1, ("a", thing))
        paper = [("open", (), "there"), ("swap", (), "there"), ("turn", (0,), "there")]
        told = led(BOOK, name("w"), paper, thing)
        self.assertEqual((told[0], told[1][1]), (0, "a"))
        back = led_back(BOOK, name("w"), paper, told)
        deep = 0
        while back[0] == 1:
            back, deep = back[1][1], deep + 1
        self.assertEqual(deep, 20000)
        row = ((0, "a"), (1, "b")) * 2000
        many = [("swap", (0,), "there")] * 29 + [("roll", (), "there")]
        told = led(BOOK, ("row", AB), many, row)
        self.assertEqual(told, (1, ((1, "a"), ((0, "b"),) + ((1, "a"), (0, "b")) * 1999)))
        self.assertEqual(led_back(BOOK, ("row", AB), many, told), row)
        self.assertLess(time.perf_counter() - begin, 10)


class TurnedTest(unittest.TestCase):
    def test_by_hand(self):
        paper = [("open", (), "there"), ("swap", (), "there"), ("turn", (0,), "back"), ("open", (0, 0), "there")]
        self.assertEqual(turned(BOOK, name("w"), paper), [
            ("open", (0, 0), "back", "w"), ("turn", (0,), "there"), ("swap", (), "back"), ("open", (), "back", "w"),
        ])
        self.assertEqual(turned(BOOK, BOOK["w"], [("open", (), "back", "w")]), [("open", (), "there")])
        self.assertEqual(turned(BOOK, A, []), [])

    def test_leads_back_and_turned_again_is_the_paper(self):
        chance = random.Random(87)
        for book, making in cases(chance, 25):
            for many in (1, 4, 10):
                paper, behind = some_paper(chance, book, making, many)
                kept = copy.deepcopy(paper)
                back = turned(book, making, paper)
                self.assertIs(type(back), list)
                self.assertEqual(paper_makes(book, behind, back), making)
                self.assertEqual(turned(book, behind, back), paper)
                back.clear()
                self.assertEqual(paper, kept)
                self.assertEqual(len(turned(book, making, paper)), many)


class ShowsAlikeTest(unittest.TestCase):
    def test_just_where_the_paper_leads(self):
        chance = random.Random(88)
        for book, making in cases(chance, 15):
            paper, behind = some_paper(chance, book, making, 4)
            self.assertIs(shows_alike(book, making, behind, paper), True)
            self.assertIs(shows_alike(book, behind, making, turned(book, making, paper)), True)
            self.assertIs(shows_alike(book, making, making, []), True)
            self.assertIs(shows_alike(book, making, behind, []), making == behind)
            for other in (A, AB, ("sum", NONE, behind) if depth(behind) < 6 and len(parts(behind)) < 39 else A):
                self.assertIs(shows_alike(book, making, other, paper), other == behind)

    def test_no_papers(self):
        for bad in NO_STEPS:
            if bad != []:
                self.assertIs(shows_alike(BOOK, AB, AB, bad), False)
            self.assertIs(shows_alike(BOOK, AB, AB, [bad]), False)

    def test_both_makings(self):
        for bad in JUNK + [of_parts(41), ("row", UNIT)]:
            refused(self, BadMaking, shows_alike, BOOK, bad, A, [])
            refused(self, BadMaking, shows_alike, BOOK, A, bad, [])
            refused(self, BadMaking, shows_alike, BOOK, A, bad, None)
        self.assertEqual(refused(self, NoRule, shows_alike, BOOK, A, name("zz"), None).lacks, "zz")
        self.assertEqual(refused(self, NoRule, shows_alike, BOOK, name("zz"), None, None).lacks, "zz")
        self.assertIsNone(refused(self, BadBook, shows_alike, {}, None, None, None).wrong)


class GreatestTest(unittest.TestCase):
    def test_full_papers_and_makings(self):
        begin = time.perf_counter()
        book = {word: of_parts_plain(40) for word in ("a", "bb", "ccc", "dddd", "eeeee", "ffffff", "ggggggg", "hhhhhhhh")}
        making = book["a"]
        paper = [("swap", path, "there") for path in paths(making) if at(making, path)[0] == "sum"]
        paper = (paper * 3)[:30]
        behind = paper_makes(book, making, paper)
        self.assertTrue(shows_alike(book, making, behind, paper))
        self.assertEqual(paper_makes(book, behind, turned(book, making, paper)), making)
        self.assertEqual(paper_makes(book, making, [("open", (), "back", "hhhhhhhh")]), name("hhhhhhhh"))
        self.assertLess(time.perf_counter() - begin, 10)

    def test_a_long_way(self):
        """Texts of two letters as rows and as a rule that leads to itself, by hand."""
        book = {"w": ("sum", UNIT, ("sum", ("pair", A, name("w")), ("pair", B, name("w"))))}
        one = ("sum", UNIT, ("pair", AB, name("w")))
        paper = [("turn", (1,), "there"), ("deal", (1,), "there"), ("turn", (1, 0), "there"), ("turn", (1, 1), "there"),
                 ("open", (), "back", "w")]
        self.assertTrue(shows_alike(book, one, name("w"), paper))
        self.assertEqual(led(book, one, paper, (1, ((1, "b"), (0, ())))), (1, (1, ("b", (0, ())))))
        self.assertEqual(led_back(book, one, paper, (1, (0, ("a", (0, ()))))), (1, ((0, "a"), (0, ()))))


class BooksTest(unittest.TestCase):
    def test_fair_ones(self):
        for book in BY_HAND.values():
            for word in book:
                self.assertEqual(step_makes(book, name(word), ("open", (), "there")), book[word])

    def test_what_is_handed_in_stays(self):
        book, step = copy.deepcopy(BOOK), ("open", (), "there")
        paper = [step, ("swap", (), "there")]
        step_makes(book, name("w"), step)
        paper_makes(book, name("w"), paper)
        led(book, name("w"), paper, (0, ()))
        led_back(book, name("w"), paper, (1, ()))
        turned(book, name("w"), paper)
        shows_alike(book, name("w"), A, paper)
        self.assertEqual((list(book.items()), paper), (list(BOOK.items()), [step, ("swap", (), "there")]))


if __name__ == "__main__":
    unittest.main()
