"""Numbers: the interface of stage 4, with [2] and [3] as far as numbers hang on them."""

import copy
import random
import unittest

from countworks.counts import count
from countworks.errors import BadNumber, BadThing
from countworks.numbers import next_thing, number_of, thing_at
from countworks.things import is_ahead, is_thing, listing, size_of
from tests import helper
from tests.helper import A, AB, ABC, B, BUNCHES, BY_HAND, JUNK, MIXED, NAT, NONE, PLAIN, UNIT, name, refused
from tests.test_things import CROWD, NO_THINGS, long_way, same, some_of

# Books and makings with many things of great sizes, bags and sets of far more than 3000 things of one size among them.
GREAT = [
    (PLAIN, ("row", ABC)), (PLAIN, ("bag", NAT)), (PLAIN, ("set", NAT)), (PLAIN, ("row", MIXED)),
    (PLAIN, ("bag", ("pair", ABC, ("row", ABC)))), (PLAIN, ("set", ("pair", ABC, ("row", ABC)))),
    (PLAIN, ("bag", ("pair", AB, ("set", ("pair", A, ("bag", AB)))))),
    (PLAIN, ("set", ("pair", AB, ("bag", ("pair", A, ("row", AB)))))),
    (CROWD, ("bag", ("pair", name("ten"), ("pair", name("twenty"), ("row", name("fifteen")))))),
    (CROWD, ("set", ("pair", name("ten"), ("pair", name("twenty"), ("row", name("fifteen")))))),
    (CROWD, ("pair", ("set", name("twenty")), ("bag", ("sum", name("ten"), name("fifteen"))))),
    *[(book, name(word)) for book in BY_HAND.values() for word in book],
]


class ThereAndBackTest(unittest.TestCase):
    def told(self, book, making, size, found):
        """All things of a size, in the told order, have just the numbers from 0 on."""
        with self.subTest(book=book, making=making, size=size):
            for number, thing in enumerate(found):
                self.assertEqual(number_of(book, making, thing), number)
                self.assertEqual(repr(thing_at(book, making, size, number)), repr(thing))
                behind = found[number + 1] if number + 1 < len(found) else None
                self.assertEqual(repr(next_thing(book, making, thing)), repr(behind))
            for number in (-1, len(found), len(found) + 1, True, False):
                refused(self, BadNumber, thing_at, book, making, size, number)

    def test_small_sizes(self):
        for book, making in helper.small_cases(random.Random(21), 40):
            for size, found in enumerate(helper.told_lists(book, making, 4)):
                if len(found) <= 60:
                    self.told(book, making, size, found)

    def test_many_things_of_one_size(self):
        for book, making in helper.small_cases(random.Random(21), 40):
            for size, found in enumerate(helper.told_lists(book, making, 4)):
                if len(found) > 60:
                    for thing in some_of(found, 40) + found[-1:]:
                        number = found.index(thing)
                        self.assertEqual(number_of(book, making, thing), number)
                        self.assertEqual(thing_at(book, making, size, number), thing)
                        behind = found[number + 1] if number + 1 < len(found) else None
                        self.assertEqual(next_thing(book, making, thing), behind)

    def test_some_sizes_more(self):
        for book, making, size in ((PLAIN, ("bag", NAT), 9), (PLAIN, ("set", NAT), 14), (PLAIN, ("bag", ABC), 8),
                                   (BY_HAND["trees of bags"], name("t"), 8), (BY_HAND["trees of sets"], name("t"), 4),
                                   (PLAIN, ("set", ("pair", A, ("bag", NAT))), 8), (CROWD, ("set", name("ten")), 4),
                                   (CROWD, ("set", name("ten")), 9), (CROWD, ("bag", name("twenty")), 2)):
            self.told(book, making, size, listing(book, making, size))

    def test_sizes_without_things(self):
        for making, size in ((NONE, 0), (NONE, 3), (UNIT, 1), (A, 0), (A, 2), (("set", A), 2), (("pair", A, NONE), 1)):
            for number in (0, 1, -1):
                refused(self, BadNumber, thing_at, PLAIN, making, size, number)

    def test_walk_by_next_things(self):
        for book, making, size in ((PLAIN, ("bag", NAT), 12), (BY_HAND["three words"], name("p"), 5),
                                   (BY_HAND["trees of bags of sets"], name("t"), 8), (CROWD, ("set", name("ten")), 5)):
            thing = thing_at(book, making, size, 0)
            found = []
            while thing is not None:
                found.append(thing)
                thing = next_thing(book, making, thing)
            self.assertEqual(found, listing(book, making, size))


class GreatSizesTest(unittest.TestCase):
    def told(self, book, making, size, numbers):
        many = count(book, making, size)
        found = [thing_at(book, making, size, number) for number in numbers]
        for number, thing in zip(numbers, found):
            self.assertTrue(is_thing(book, making, thing))
            self.assertEqual(size_of(thing), size)
            self.assertEqual(number_of(book, making, thing), number)
            behind = next_thing(book, making, thing)
            if number == many - 1:
                self.assertIsNone(behind)
            else:
                self.assertEqual(behind, thing_at(book, making, size, number + 1))
                self.assertTrue(is_ahead(book, making, thing, behind))
        for one, other in zip(found, found[1:]):
            self.assertTrue(is_ahead(book, making, one, other))
            self.assertFalse(is_ahead(book, making, other, one))

    def some_numbers(self, chance, many):
        if many == 0:
            return []
        edges = {0, min(1, many - 1), max(0, many - 2), many - 1}
        return sorted(edges | {chance.randrange(many) for _ in range(5)})

    def test_far_numbers(self):
        chance = random.Random(22)
        for book, making in GREAT:
            for size in (17, 40):
                many = count(book, making, size)
                with self.subTest(book=book, making=making, size=size):
                    self.told(book, making, size, self.some_numbers(chance, many))
                    for number in (many, many + 1, -1, -many - 1, many * many + 1):
                        refused(self, BadNumber, thing_at, book, making, size, number)

    def test_full_books(self):
        chance = random.Random(23)
        book = helper.crowded_book(chance)
        making = ("pair", B, helper.crowded(chance, list(book), 38, 5))
        many = count(book, making, 40)
        self.assertGreater(many, 10 ** 20)
        self.told(book, making, 40, [0, many // 3, many - 1])

    def test_by_chance(self):
        chance = random.Random(24)
        for _ in range(40):
            book = helper.some_fair_book(chance, chance.randint(1, 4), 4)
            making = helper.some_making_of(chance, book, 4)
            with self.subTest(book=book, making=making):
                self.told(book, making, 12, self.some_numbers(chance, count(book, making, 12)))

    def test_things_beyond_size_40(self):
        thing = ((0, "a"),) * 49 + ((1, "b"),)
        self.assertEqual(number_of(PLAIN, ("row", AB), thing), 1)
        self.assertEqual(number_of(PLAIN, ("row", AB), ((1, "b"),) * 50), 2 ** 50 - 1)
        self.assertIsNone(next_thing(PLAIN, ("row", AB), ((1, "b"),) * 50))
        self.assertEqual(next_thing(PLAIN, ("bag", AB), ((0, "a"),) * 45), ((0, "a"),) * 44 + ((1, "b"),))
        self.assertEqual(number_of(PLAIN, ("bag", AB), ((1, "b"),) * 45), 45)

    def test_deep_things(self):
        book = long_way()
        first, last = [thing_at(book, name("a"), 40, number) for number in (0, 1)]
        self.assertEqual([size_of(first), size_of(last)], [40, 40])
        self.assertEqual([number_of(book, name("a"), thing) for thing in (first, last)], [0, 1])
        self.assertTrue(same(next_thing(book, name("a"), first), last))
        self.assertIsNone(next_thing(book, name("a"), last))
        self.assertTrue(same(listing(book, name("a"), 40)[1], last))


class RefusalsTest(unittest.TestCase):
    def test_no_numbers(self):
        for bad in JUNK + [True, False, -1, 8, 9, 10 ** 40, -10 ** 40, 1.0, "0", "1", (0,), [0], {0: 0}]:
            with self.subTest(bad=bad):
                refused(self, BadNumber, thing_at, PLAIN, ("row", AB), 3, bad)
        self.assertEqual(thing_at(PLAIN, ("row", AB), 3, 7), ((1, "b"),) * 3)

    def test_no_sizes(self):
        for bad in JUNK + [True, False, -1, 41, 10 ** 40, 1.0, "1", (1,), [1]]:
            with self.subTest(bad=bad):
                refused(self, BadNumber, thing_at, PLAIN, ("row", A), bad, 0)
        self.assertEqual(thing_at(PLAIN, ("row", A), 0, 0), ())
        self.assertEqual(thing_at(PLAIN, ("row", A), 40, 0), ("a",) * 40)

    def test_numbers_too_great_to_be_written(self):
        book = {"a": ("pair", ("sum", UNIT, UNIT), ("sum", UNIT, UNIT))}
        for word, behind in zip("bcdefg", "abcdef"):
            eight = ("pair", name(behind), name(behind))
            eight = ("pair", eight, eight)
            book[word] = ("pair", eight, eight)
        many = count(book, name("g"), 0)
        self.assertEqual(many, 4 ** 8 ** 6)
        refused(self, BadNumber, thing_at, book, name("f"), 0, many)
        self.assertEqual(number_of(book, name("d"), thing_at(book, name("d"), 0, 4 ** 500)), 4 ** 500)

    def test_no_things(self):
        for making in [A, ("pair", A, B), ("sum", A, UNIT), *[(kind, ("pair", A, B)) for kind in BUNCHES]]:
            for bad in NO_THINGS + JUNK:
                if repr(bad) not in {repr(thing) for thing in helper.things(PLAIN, making, 2)}:
                    with self.subTest(making=making, bad=bad):
                        refused(self, BadThing, number_of, PLAIN, making, bad)
                        refused(self, BadThing, next_thing, PLAIN, making, bad)

    def test_bags_and_sets_that_are_none(self):
        low, high = (0, "a"), (1, "b")
        for making, bad in ((("bag", AB), (high, low)), (("set", AB), (high, low)), (("set", AB), (low, low)),
                            (("row", ("pair", A, ("set", AB))), (("a", (low,)), ("a", (low, low)))),
                            (("bag", ("pair", A, ("bag", AB))), (("a", (low, low)), ("a", (low,)))),
                            (("sum", A, ("pair", ("bag", AB), A)), (1, ((low, high, low), "a")))):
            with self.subTest(making=making):
                refused(self, BadThing, number_of, PLAIN, making, bad)
                refused(self, BadThing, next_thing, PLAIN, making, bad)

    def test_what_is_handed_in_stays(self):
        for book in BY_HAND.values():
            before = copy.deepcopy(book)
            for word in book:
                for size in range(5):
                    for number in range(min(2, count(book, name(word), size))):
                        thing = thing_at(book, name(word), size, number)
                        number_of(book, name(word), thing)
                        next_thing(book, name(word), thing)
            self.assertEqual(list(book.items()), list(before.items()))


if __name__ == "__main__":
    unittest.main()
