"""Things: [31] and the interface of stage 3, with [2] and [3] as far as things hang on them."""

import copy
import random
import unittest

from countworks.counts import count, counts
from countworks.errors import BadNumber, BadThing, Full
from countworks.numbers import thing_at
from countworks.things import is_ahead, is_thing, listing, size_of
from tests import helper
from tests.helper import A, AB, ABC, B, BUNCHES, BY_HAND, JUNK, NAT, NONE, PLAIN, UNIT, name, refused, total

LETTERS = "abcdefghijklmnopqrstuvwxyz"

# None of these is a thing of any making of the tests, not even of a row of letters.
NO_THINGS = [
    True, False, None, -1, 0, 1, 2, 1.0, "", "A", "ab", "z!", b"a", object(), [], ["a"], [()], {}, {"a": 1}, set(),
    frozenset(), ((), ()), ([],), ({},), (None,), (True,), (False, "a"), (True, "a"), ("a", None), (0, ["a"]), (0.0, "a"),
    (0,), (1,), (0, 1), (2, "a"), (-1, "a"), ("A",), ("ab",), ((),), (((),),), ("a", ("b",), {}), {"a": ("a",)}, [("a",)],
]


def few_letters(many):
    """A making with so many things of size 1, up to 20."""
    makings = [("atom", letter) for letter in LETTERS[:many]]
    while len(makings) > 1:
        makings = [total(*makings[k:k + 2]) for k in range(0, len(makings), 2)]
    return makings[0]


# Makings of a book with 10, 15 and 20 letters, and with 3000 things of size 3.
CROWD = {"ten": few_letters(10), "fifteen": few_letters(15), "twenty": few_letters(20)}
JUST_3000 = ("pair", name("ten"), ("pair", name("fifteen"), name("twenty")))
ONE_MORE = ("sum", JUST_3000, ("pair", A, ("pair", A, A)))


def nested(many, inside):
    """A tuple nested deeper than calls may be."""
    for _ in range(many):
        inside = (inside,)
    return inside


def same(one, other):
    """Whether two things are the same, however deep they are nested."""
    ahead = [(one, other)]
    while ahead:
        left, right = ahead.pop()
        if left.__class__ is not right.__class__:
            return False
        if isinstance(left, tuple):
            if len(left) != len(right):
                return False
            ahead.extend(zip(left, right))
        elif left != right:
            return False
    return True


def long_way():
    """A book whose things are nested as deep as things up to size 40 may be, two of each size from 1 on."""
    book = {"h": ("sum", ("sum", A, B), ("pair", A, name("a")))}
    for word, behind in zip("gfedcba", "hgfedcb"):
        book[word] = total(NONE, NONE, NONE, NONE, NONE, NONE, name(behind))
    return book


def changed(thing):
    """Things that are like a thing but for one place."""
    yield from [None, [thing], (thing,)]
    if isinstance(thing, str):
        yield from ["a", "b", "c", "d", thing.upper(), thing + thing, "", (), 0]
    elif isinstance(thing, int):
        yield from [0, 1, 2, -1, bool(thing), float(thing), str(thing), ()]
    elif isinstance(thing, tuple):
        yield from [list(thing), thing[::-1], thing + thing, thing + ("a",), ("a",) + thing, thing + ((),)]
        for at, part in enumerate(thing):
            yield thing[:at] + thing[at + 1:]
            yield thing[:at] + (part,) + thing[at:]
            if at:
                yield thing[:at - 1] + (part, thing[at - 1]) + thing[at + 1:]
            for one in changed(part):
                yield thing[:at] + (one,) + thing[at + 1:]


def some_of(found, many):
    """So many of a list, spread evenly over it, or all where there are no more."""
    return [found[at * len(found) // many] for at in range(many)] if len(found) > many else found


def letters_in(thing):
    """How many letters anything has, however wrong it is."""
    if isinstance(thing, (tuple, list)):
        return sum(letters_in(part) for part in thing)
    return len(thing) if isinstance(thing, str) else 0


class ListingTest(unittest.TestCase):
    def told(self, book, making, most):
        with self.subTest(book=book, making=making):
            lists = helper.told_lists(book, making, most)
            found = [listing(book, making, size) for size in range(most + 1)]
            # Truths are like 0 and 1, so the forms are compared, too.
            self.assertEqual(repr(found), repr(lists))
            self.assertEqual([len(one) for one in found], counts(book, making, most))

    def test_small_sizes(self):
        for book, making in helper.small_cases(random.Random(11), 150):
            self.told(book, making, 4)

    def test_some_sizes_more(self):
        for kind in BUNCHES:
            for part in (A, NAT, ("pair", A, ("bag", A)), ("pair", A, ("set", NAT))):
                self.told(PLAIN, (kind, part), 7)
        for book in BY_HAND.values():
            for word in book:
                self.told(book, name(word), 5)

    def test_by_hand(self):
        self.assertEqual(listing(PLAIN, NONE, 0), [])
        self.assertEqual(listing(PLAIN, UNIT, 0), [()])
        self.assertEqual(listing(PLAIN, UNIT, 1), [])
        self.assertEqual(listing(PLAIN, A, 1), ["a"])
        self.assertEqual(listing(PLAIN, A, 2), [])
        self.assertEqual(listing(PLAIN, ("sum", B, A), 1), [(0, "b"), (1, "a")])
        self.assertEqual(listing(PLAIN, ("pair", ("sum", UNIT, A), ("sum", B, UNIT)), 1),
                         [((0, ()), (0, "b")), ((1, "a"), (1, ()))])
        self.assertEqual(listing(PLAIN, ("row", ("sum", B, A)), 2),
                         [((0, "b"), (0, "b")), ((0, "b"), (1, "a")), ((1, "a"), (0, "b")), ((1, "a"), (1, "a"))])
        self.assertEqual(listing(PLAIN, ("bag", ("sum", B, A)), 2),
                         [((0, "b"), (0, "b")), ((0, "b"), (1, "a")), ((1, "a"), (1, "a"))])
        self.assertEqual(listing(PLAIN, ("set", ("sum", B, A)), 2), [((0, "b"), (1, "a"))])

    def test_the_lesser_size_ahead(self):
        long = ("pair", A, A)
        self.assertEqual(listing(PLAIN, ("row", ("sum", long, A)), 3),
                         [((1, "a"),) * 3, ((1, "a"), (0, ("a", "a"))), ((0, ("a", "a")), (1, "a"))])
        self.assertEqual(listing(PLAIN, ("bag", ("sum", long, A)), 3), [((1, "a"),) * 3, ((1, "a"), (0, ("a", "a")))])
        self.assertEqual(listing(PLAIN, ("set", ("sum", long, A)), 3), [((1, "a"), (0, ("a", "a")))])
        # Of one size, the side of a sum tells; of unlike sizes of what is within, the first thing's.
        self.assertEqual(listing(PLAIN, ("pair", ("row", A), ("row", B)), 2),
                         [((), ("b", "b")), (("a",), ("b",)), (("a", "a"), ())])

    def test_sizes_0_and_40(self):
        self.assertEqual(listing(PLAIN, ("row", A), 0), [()])
        self.assertEqual(listing(PLAIN, ("row", A), 40), [("a",) * 40])
        self.assertEqual(listing(PLAIN, A, 40), [])
        self.assertEqual(listing(PLAIN, ("bag", AB), 40),
                         [((0, "a"),) * k + ((1, "b"),) * (40 - k) for k in range(40, -1, -1)])
        self.assertEqual(listing(PLAIN, ("set", AB), 40), [])
        self.assertEqual(len(listing(PLAIN, ("set", NAT), 40)), 1113)
        found = listing(BY_HAND["unfolded"], name("w"), 40)
        self.assertEqual((len(found), size_of(found[0])), (1, 40))

    def test_no_sizes(self):
        for bad in JUNK + [True, False, -1, 41, "1", 1.0, (1,), [1], {1: 1}, 10 ** 30, -10 ** 30]:
            with self.subTest(bad=bad):
                refused(self, BadNumber, listing, PLAIN, A, bad)

    def test_just_3000(self):
        found = listing(CROWD, JUST_3000, 3)
        self.assertEqual(len(found), 3000)
        self.assertEqual(len(set(found)), 3000)
        for kind in BUNCHES:
            self.assertEqual(listing(CROWD, (kind, JUST_3000), 3), [(thing,) for thing in found])
        self.assertEqual(listing(CROWD, ("sum", NONE, JUST_3000), 3), [(1, thing) for thing in found])

    def test_one_more_is_full(self):
        self.assertEqual(count(CROWD, ONE_MORE, 3), 3001)
        refused(self, Full, listing, CROWD, ONE_MORE, 3)
        for kind in BUNCHES:
            refused(self, Full, listing, CROWD, (kind, ONE_MORE), 3)
        self.assertEqual(listing(CROWD, ONE_MORE, 2), [])

    def test_full(self):
        refused(self, Full, listing, PLAIN, ("row", AB), 12)
        self.assertEqual(len(listing(PLAIN, ("row", AB), 11)), 2048)
        refused(self, Full, listing, PLAIN, ("bag", NAT), 27)
        self.assertEqual(len(listing(PLAIN, ("bag", NAT), 26)), 2436)
        refused(self, Full, listing, CROWD, ("set", name("twenty")), 16)
        self.assertEqual(len(listing(CROWD, ("set", name("twenty")), 17)), 1140)
        refused(self, Full, listing, PLAIN, ("row", AB), 40)
        refused(self, Full, listing, BY_HAND["trees of bags"], name("t"), 40)

    def test_not_full_of_what_is_not_listed(self):
        many = ("row", name("twenty"))
        self.assertEqual(listing(CROWD, ("pair", many, NONE), 10), [])
        self.assertEqual(listing(CROWD, ("pair", NONE, many), 10), [])
        self.assertEqual(listing(CROWD, ("pair", A, many), 1), [("a", ())])
        # All sets of ten of twenty letters are too many, the one of all twenty is not.
        self.assertEqual(listing(CROWD, ("set", name("twenty")), 20), [tuple(listing(CROWD, name("twenty"), 1))])
        self.assertEqual(listing(CROWD, ("set", name("twenty")), 21), [])
        # There are too many things of size 4 here, but none of a size that would go with them.
        self.assertEqual(listing(CROWD, ("set", ("pair", ("pair", name("ten"), name("ten")),
                                                 ("pair", name("ten"), name("ten")))), 6), [])

    def test_lists_are_new(self):
        for making in (AB, name("m"), ("bag", name("m")), ("row", A), UNIT, ("pair", name("m"), A)):
            for size in range(3):
                told = listing(PLAIN, making, size)
                before = list(told)
                told.append("z")
                told[0] = None
                self.assertEqual(listing(PLAIN, making, size), before)

    def test_deep_things(self):
        book = long_way()
        found = listing(book, name("a"), 40)
        self.assertEqual(len(found), 2)
        self.assertEqual([size_of(thing) for thing in found], [40, 40])
        self.assertTrue(all(is_thing(book, name("a"), thing) for thing in found))
        self.assertTrue(is_ahead(book, name("a"), found[0], found[1]))
        self.assertFalse(is_ahead(book, name("a"), found[1], found[0]))
        self.assertFalse(is_ahead(book, name("a"), found[1], found[1]))
        self.assertFalse(same(found[0], found[1]))


class IsThingTest(unittest.TestCase):
    def test_each_listed_and_no_changed_one(self):
        seen = {True: 0, False: 0}
        for book, making in helper.small_cases(random.Random(12), 30):
            found = helper.in_told_order(book, making, 3)
            forms = {repr(thing) for thing in found}
            for thing in some_of(found, 60):
                self.assertIs(is_thing(book, making, thing), True, (book, making, thing))
            others = {repr(one): one for thing in some_of(found, 6) for one in changed(thing)}
            for form, one in others.items():
                if letters_in(one) <= 3:
                    told = is_thing(book, making, one)
                    self.assertIs(told, form in forms, (book, making, one))
                    seen[told] += 1
        self.assertGreater(min(seen.values()), 500)

    def test_things_of_other_makings(self):
        makings = helper.EVERY_KIND + helper.EVERY_BUNCH
        found = {}
        for making in makings:
            for thing in helper.things(PLAIN, making, 3):
                found[repr(thing)] = thing
        for making in makings:
            forms = {repr(thing) for thing in helper.things(PLAIN, making, 3)}
            for form, thing in found.items():
                self.assertIs(is_thing(PLAIN, making, thing), form in forms, (making, thing))

    def test_anything_else(self):
        for making in (A, B, ABC, ("pair", A, B), ("sum", A, UNIT), ("sum", UNIT, A), ("pair", A, UNIT), NONE, name("m"),
                       *[(kind, ("pair", A, B)) for kind in BUNCHES]):
            for bad in NO_THINGS + JUNK:
                told = helper.things(PLAIN, making, 2)
                if repr(bad) not in {repr(thing) for thing in told}:
                    with self.subTest(making=making, bad=bad):
                        self.assertIs(is_thing(PLAIN, making, bad), False)

    def test_truths_are_no_marks(self):
        making = ("sum", A, UNIT)
        for bad in ((False, "a"), (True, ()), (0.0, "a"), ("0", "a"), (None, "a"), (2, "a"), (-1, "a")):
            self.assertIs(is_thing(PLAIN, making, bad), False)
            self.assertIs(is_thing(PLAIN, ("row", ("pair", A, making)), (("a", bad),)), False)
        self.assertIs(is_thing(PLAIN, making, (0, "a")), True)
        self.assertIs(is_thing(PLAIN, making, (1, ())), True)

    def test_lists_are_no_tuples(self):
        self.assertIs(is_thing(PLAIN, UNIT, []), False)
        self.assertIs(is_thing(PLAIN, ("row", A), ["a"]), False)
        self.assertIs(is_thing(PLAIN, ("row", A), "aa"), False)
        self.assertIs(is_thing(PLAIN, ("pair", A, B), "ab"), False)
        self.assertIs(is_thing(PLAIN, ("pair", A, B), ["a", "b"]), False)
        self.assertIs(is_thing(PLAIN, ("row", ("row", ("pair", A, B))[1]), (["a", "b"],)), False)

    def test_bags_that_fall_and_sets_that_do_not_rise(self):
        low, high = (0, "a"), (1, "b")
        for row, bag, as_set in (((), True, True), ((low,), True, True), ((low, low), True, False),
                                 ((low, high), True, True), ((high, low), False, False), ((high, high), True, False),
                                 ((low, low, high), True, False), ((low, high, low), False, False)):
            with self.subTest(row=row):
                self.assertIs(is_thing(PLAIN, ("row", AB), row), True)
                self.assertIs(is_thing(PLAIN, ("bag", AB), row), bag)
                self.assertIs(is_thing(PLAIN, ("set", AB), row), as_set)
        # The greater size stands behind, whatever side it is of.
        making = ("sum", ("pair", A, A), B)
        long, short = (0, ("a", "a")), (1, "b")
        self.assertIs(is_thing(PLAIN, ("bag", making), (short, long)), True)
        self.assertIs(is_thing(PLAIN, ("set", making), (short, long)), True)
        self.assertIs(is_thing(PLAIN, ("bag", making), (long, short)), False)
        self.assertIs(is_thing(PLAIN, ("set", making), (long, short)), False)

    def test_beyond_size_40(self):
        self.assertIs(is_thing(PLAIN, ("row", A), ("a",) * 60), True)
        self.assertIs(is_thing(PLAIN, ("row", A), ("a",) * 59 + ("b",)), False)
        self.assertIs(is_thing(PLAIN, ("bag", A), ("a",) * 60), True)
        self.assertIs(is_thing(PLAIN, ("set", A), ("a",) * 60), False)
        thing = (0, ())
        for _ in range(3000):
            thing = (1, ("a", thing))
        self.assertIs(is_thing(BY_HAND["unfolded"], name("w"), thing), True)
        self.assertIs(is_thing(BY_HAND["unfolded"], name("w"), (1, ("b", thing))), False)

    def test_nested_without_end(self):
        bad = nested(100000, ())
        endless = []
        endless.append(endless)
        for book, making in ((PLAIN, A), (PLAIN, ("row", A)), (PLAIN, UNIT), (BY_HAND["trees"], name("t")),
                             (BY_HAND["trees of rows"], name("t"))):
            self.assertIs(is_thing(book, making, bad), False)
            self.assertIs(is_thing(book, making, endless), False)
            self.assertIs(is_thing(book, making, (1, endless)), False)

    def test_what_is_handed_in_stays(self):
        for book in BY_HAND.values():
            before = copy.deepcopy(book)
            for word in book:
                bad = [(0, ["a"]), {"a": [1]}]
                is_thing(book, name(word), bad)
                is_thing(book, name(word), "a")
                listing(book, name(word), 4)
                self.assertEqual(bad, [(0, ["a"]), {"a": [1]}])
            self.assertEqual(list(book.items()), list(before.items()))


class SizeOfTest(unittest.TestCase):
    def test_every_kind_of_thing(self):
        for thing, told in (("a", 1), ("z", 1), (0, 0), (1, 0), ((), 0), ((0, "a"), 1), ((1, ()), 0), (("a", "b"), 2),
                            (("a",) * 40, 40), (((0, "q"), (1, ("r", ((), "s")))), 3), ((0, 1, ()), 0), ((((),),), 0),
                            (("a",) * 500, 500)):
            with self.subTest(thing=thing):
                self.assertEqual(size_of(thing), told)

    def test_listed_things(self):
        for book, making in helper.small_cases(random.Random(13), 20):
            for size in range(4):
                for thing in listing(book, making, size):
                    self.assertEqual(size_of(thing), size)

    def test_deep_things(self):
        self.assertEqual(size_of(nested(100000, "a")), 1)
        self.assertEqual(size_of(nested(100000, ())), 0)
        refused(self, BadThing, size_of, nested(100000, []))

    def test_no_things(self):
        bads = [True, False, None, 2, -1, 1.0, "", "A", "ab", "1", "\u00e9", b"a", [], ["a"], {}, {"a": "a"}, set(), {"a"},
                object(), frozenset()]
        for bad in bads:
            for one in (bad, (bad,), ("a", bad), (bad, "a"), (0, (1, ("a", (bad,))))):
                with self.subTest(one=one):
                    refused(self, BadThing, size_of, one)


class IsAheadTest(unittest.TestCase):
    def told(self, book, making, found):
        for at, one in enumerate(found):
            for place, other in enumerate(found):
                told = is_ahead(book, making, one, other)
                self.assertIs(told, at < place, (book, making, one, other))

    def test_all_pairs(self):
        for book, making in helper.small_cases(random.Random(14), 40):
            found = helper.in_told_order(book, making, 4)
            self.told(book, making, some_of(found, 24))

    def test_unlike_sizes(self):
        self.assertIs(is_ahead(PLAIN, ("row", AB), ((1, "b"),), ((0, "a"), (0, "a"))), True)
        self.assertIs(is_ahead(PLAIN, ("row", AB), ((0, "a"), (0, "a")), ((1, "b"),)), False)
        self.assertIs(is_ahead(PLAIN, ("sum", ("pair", A, A), B), (0, ("a", "a")), (1, "b")), False)
        self.assertIs(is_ahead(PLAIN, ("sum", ("pair", A, A), B), (1, "b"), (0, ("a", "a"))), True)
        self.assertIs(is_ahead(PLAIN, ("row", A), ("a",) * 50, ("a",) * 51), True)

    def test_great_things(self):
        chance = random.Random(15)
        for book, word in ((BY_HAND["trees"], "t"), (BY_HAND["trees of bags"], "t"), (BY_HAND["three words"], "p")):
            many = count(book, name(word), 30)
            numbers = sorted(chance.sample(range(min(many, 10 ** 15)), 12))
            self.told(book, name(word), [thing_at(book, name(word), 30, number) for number in numbers])

    def test_no_things(self):
        for bad in NO_THINGS:
            if bad != ():
                with self.subTest(bad=bad):
                    making = ("row", ("pair", A, B))
                    refused(self, BadThing, is_ahead, PLAIN, making, bad, ())
                    refused(self, BadThing, is_ahead, PLAIN, making, (), bad)
                    refused(self, BadThing, is_ahead, PLAIN, making, bad, bad)
        refused(self, BadThing, is_ahead, PLAIN, ("bag", AB), ((1, "b"), (0, "a")), ())
        refused(self, BadThing, is_ahead, PLAIN, ("bag", AB), (), ((1, "b"), (0, "a")))
        refused(self, BadThing, is_ahead, PLAIN, ("sum", A, A), (True, "a"), (0, "a"))
        refused(self, BadThing, is_ahead, PLAIN, ("sum", A, A), (0, "a"), (True, "a"))


if __name__ == "__main__":
    unittest.main()
