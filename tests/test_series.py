"""Series: [61] and the interface of stage 6, with [3] as far as series hang on it."""

import random
import unittest
from itertools import combinations, combinations_with_replacement

from countworks.counts import counts
from countworks.errors import BadNumber, BadSeries
from countworks.series import added, bags_of, inside, is_series, rows_of, sets_of, spread, times
from tests import helper
from tests.helper import A, AB, JUNK, NAT, PLAIN, UNIT, name, refused

NO_SERIES = [bad for bad in JUNK if bad != (1, 2)] + [
    (), [0, 1], [0], 0, 1, "01", (True,), (False,), (0, True), (0, 1, False), (0, 1.0), (0, "1"), (0, None), (0, (1,)),
    (0, [1]), ((0, 1),), {0: 1}, {0, 1}, (0,) * 42, (1,) * 42, (0,) * 100, range(3), ([0, 1],), (0,) * 40 + (True,),
]


def generalized(many, times):
    """How many ways there are to choose so many of many, which may be below nought."""
    ways = 1
    for k in range(times):
        ways = ways * (many - k) // (k + 1)
    return ways


def bunched(one, base):
    """The product, for each size, of (1 - x^size)^-many for bags, (1 + x^size)^many for sets."""
    if base == "bag":
        return tuple(helper.bunched(one, lambda many, times: generalized(many + times - 1, times)))
    return tuple(helper.bunched(one, generalized))


def some_series(chance, many, most, first=None):
    found = [chance.randint(-most, most) for _ in range(many)]
    return tuple(found if first is None else [first] + found[1:])


def taken(choose, one, most):
    """How many bags or sets of each size there are, made of things by hand, so many of each size."""
    things = [(size, k) for size in range(1, len(one)) for k in range(one[size])]
    told = [0] * (most + 1)
    for many in range(most + 1):
        for bunch in choose(things, many):
            size = sum(thing[0] for thing in bunch)
            if size <= most:
                told[size] += 1
    return tuple(told)


class IsSeriesTest(unittest.TestCase):
    def test_lengths(self):
        for many, told in ((0, False), (1, True), (2, True), (40, True), (41, True), (42, False), (80, False)):
            self.assertIs(is_series((0,) * many), told)
            self.assertIs(is_series((7,) * many), told)

    def test_whole_numbers(self):
        for series in ((0,), (-1,), (10 ** 100, -10 ** 100), (1, 2, 3), tuple(range(-20, 21))):
            self.assertIs(is_series(series), True)

    def test_no_series(self):
        for bad in NO_SERIES:
            with self.subTest(bad=bad):
                self.assertIs(is_series(bad), False)


class AddedTimesTest(unittest.TestCase):
    def test_by_hand(self):
        self.assertEqual(added((1, 2, 3), (10, 20, 30)), (11, 22, 33))
        self.assertEqual(times((1, 1, 0), (1, 1, 0)), (1, 2, 1))
        self.assertEqual(times((1, 2, 3), (4, 5, 6)), (4, 13, 28))
        self.assertEqual(times((1, -1, 0, 0), (1, 1, 1, 1)), (1, 0, 0, 0))

    def test_as_many_as_the_shorter_one(self):
        self.assertEqual(added((1, 2, 3), (10,)), (11,))
        self.assertEqual(added((1,), (10, 20)), (11,))
        self.assertEqual(times((1, 2, 3), (10,)), (10,))
        self.assertEqual(times((3, 1), (10, 20, 5, 6)), (30, 70))
        for many in (1, 5, 41):
            for other in (1, 5, 41):
                self.assertEqual(len(added((1,) * many, (2,) * other)), min(many, other))
                self.assertEqual(len(times((1,) * many, (2,) * other)), min(many, other))

    def test_great_ones(self):
        chance = random.Random(61)
        for _ in range(20):
            one = some_series(chance, chance.randint(1, 41), 10 ** 30)
            other = some_series(chance, chance.randint(1, 41), 10 ** 30)
            shorter = min(len(one), len(other))
            self.assertEqual(added(one, other), tuple(one[k] + other[k] for k in range(shorter)))
            told = [0] * shorter
            for at in range(shorter):
                for place in range(shorter - at):
                    told[at + place] += one[at] * other[place]
            self.assertEqual(times(one, other), tuple(told))
            self.assertEqual(times(other, one), tuple(told))

    def test_no_series(self):
        for bad in NO_SERIES:
            for ask in (added, times):
                with self.subTest(bad=bad):
                    refused(self, BadSeries, ask, bad, (0, 1))
                    refused(self, BadSeries, ask, (0, 1), bad)
                    refused(self, BadSeries, ask, bad, bad)


class RowsBagsSetsTest(unittest.TestCase):
    def test_one_number(self):
        for ask in (rows_of, bags_of, sets_of):
            self.assertEqual(ask((0,)), (1,))
            self.assertEqual(ask((0,) * 41), (1,) + (0,) * 40)

    def test_by_hand(self):
        self.assertEqual(rows_of((0, 1, 1, 0, 0, 0)), (1, 1, 2, 3, 5, 8))
        self.assertEqual(rows_of((0, 2, 0, 0)), (1, 2, 4, 8))
        self.assertEqual(rows_of((0, -1, 0, 0)), (1, -1, 1, -1))
        self.assertEqual(bags_of((0, 1, 1, 1, 1, 1, 1)), (1, 1, 2, 3, 5, 7, 11))
        self.assertEqual(sets_of((0, 1, 1, 1, 1, 1, 1)), (1, 1, 1, 2, 2, 3, 4))
        self.assertEqual(bags_of((0, 2, 0, 0)), (1, 2, 3, 4))
        self.assertEqual(sets_of((0, 2, 0, 0)), (1, 2, 1, 0))

    def test_below_nought_by_hand(self):
        # 1 / (1 - x) and 1 + x turned about.
        self.assertEqual(bags_of((0, -1, 0, 0)), (1, -1, 0, 0))
        self.assertEqual(bags_of((0, -2, 0, 0)), (1, -2, 1, 0))
        self.assertEqual(sets_of((0, -1, 0, 0)), (1, -1, 1, -1))
        self.assertEqual(sets_of((0, -2, 0, 0)), (1, -2, 3, -4))
        # All parts, below nought: the five-cornered numbers.
        self.assertEqual(bags_of((0,) + (-1,) * 12), (1, -1, -1, 0, 0, 1, 0, 1, 0, 0, 0, 0, -1))

    def test_rows_are_the_series_times_rows(self):
        chance = random.Random(62)
        for _ in range(20):
            one = some_series(chance, chance.randint(1, 41), 9, 0)
            rows = rows_of(one)
            self.assertEqual(len(rows), len(one))
            self.assertEqual(rows[0], 1)
            self.assertEqual(rows[1:], times(one, rows)[1:])

    def test_bags_and_sets_made_by_hand(self):
        for one in ((0, 1), (0, 3), (0, 1, 1), (0, 2, 1), (0, 0, 2), (0, 1, 0, 2), (0, 2, 2, 1), (0, 0, 0, 3)):
            wide = one + (0,) * (7 - len(one))
            self.assertEqual(bags_of(wide), taken(combinations_with_replacement, one, 6))
            self.assertEqual(sets_of(wide), taken(combinations, one, 6))

    def test_second_road_also_below_nought(self):
        chance = random.Random(63)
        for most in (1, 3, 50, 10 ** 20):
            for _ in range(6):
                one = some_series(chance, chance.randint(1, 41), most, 0)
                self.assertEqual(bags_of(one), bunched(one, "bag"))
                self.assertEqual(sets_of(one), bunched(one, "set"))

    def test_what_is_below_nought_undoes(self):
        chance = random.Random(64)
        for _ in range(10):
            one = some_series(chance, 20, 5, 0)
            turned = tuple(-number for number in one)
            self.assertEqual(times(bags_of(one), bags_of(turned)), (1,) + (0,) * 19)
            self.assertEqual(times(sets_of(one), sets_of(turned)), (1,) + (0,) * 19)

    def test_no_series(self):
        for bad in NO_SERIES + [(1,), (1, 0), (-1, 0, 0), (10 ** 30, 1), (1,) * 41]:
            for ask in (rows_of, bags_of, sets_of):
                with self.subTest(bad=bad):
                    refused(self, BadSeries, ask, bad)

    def test_counts_of_makings(self):
        for book, one, other in ((PLAIN, A, AB), (PLAIN, name("m"), NAT), (PLAIN, ("sum", UNIT, AB), ("row", A)),
                                 (helper.BY_HAND["trees"], name("t"), A),
                                 (helper.BY_HAND["three words"], name("p"), name("q"))):
            left, right = [tuple(counts(book, making, 40)) for making in (one, other)]
            self.assertEqual(tuple(counts(book, ("sum", one, other), 40)), added(left, right))
            self.assertEqual(tuple(counts(book, ("pair", one, other), 40)), times(left, right))
            for making, series in ((one, left), (other, right)):
                if series[0] == 0:
                    self.assertEqual(tuple(counts(book, ("row", making), 40)), rows_of(series))
                    self.assertEqual(tuple(counts(book, ("bag", making), 40)), bags_of(series))
                    self.assertEqual(tuple(counts(book, ("set", making), 40)), sets_of(series))


class InsideTest(unittest.TestCase):
    def test_by_hand(self):
        self.assertEqual(inside((1, 1, 1, 1), (0, 1, 0, 0)), (1, 1, 1, 1))
        self.assertEqual(inside((5, 7, 9), (0, 2, 0)), (5, 14, 36))
        self.assertEqual(inside((0, 0, 1, 0, 0), (0, 1, 1, 0, 0)), (0, 0, 1, 2, 1))
        self.assertEqual(inside((3, 1, 4), (0, 0, 0)), (3, 0, 0))
        self.assertEqual(inside((0, 1, 0, 0), (0, 4, -5, 6)), (0, 4, -5, 6))

    def test_as_many_as_the_shorter_one(self):
        self.assertEqual(inside((4, 5, 6), (0,)), (4,))
        self.assertEqual(inside((4,), (0, 1, 1)), (4,))
        self.assertEqual(inside((4, 5), (0, 1, 1)), (4, 5))
        self.assertEqual(inside((4, 5, 6, 7), (0, 1, 1)), (4, 5, 11))

    def test_sums_of_powers(self):
        chance = random.Random(65)
        for many in (1, 2, 7, 41):
            for most in (2, 10 ** 20):
                one = some_series(chance, many, most)
                other = some_series(chance, chance.randint(1, 41), most, 0)
                shorter = min(len(one), len(other))
                told, power = [0] * shorter, [1] + [0] * (shorter - 1)
                for number in one[:shorter]:
                    told = [x + number * y for x, y in zip(told, power)]
                    power = helper.product(power, list(other[:shorter]))
                self.assertEqual(inside(one, other), tuple(told))

    def test_rows_are_all_powers(self):
        one = (0, 2, -1, 3, 0, 5)
        self.assertEqual(inside((1,) * 6, one), rows_of(one))

    def test_no_series(self):
        for bad in NO_SERIES:
            with self.subTest(bad=bad):
                refused(self, BadSeries, inside, bad, (0, 1))
                refused(self, BadSeries, inside, (0, 1), bad)
        for bad in ((1,), (1, 0), (-1, 2), (10 ** 30, 0)):
            refused(self, BadSeries, inside, (0, 1), bad)
            self.assertEqual(inside(bad, (0,)), bad[:1])


class SpreadTest(unittest.TestCase):
    def test_by_hand(self):
        self.assertEqual(spread((1, 2, 3, 4, 5), 2), (1, 0, 2, 0, 3))
        self.assertEqual(spread((1, 2, 3, 4, 5), 3), (1, 0, 0, 2, 0))
        self.assertEqual(spread((1, 2, 3, 4, 5), 4), (1, 0, 0, 0, 2))
        self.assertEqual(spread((1, 2, 3, 4, 5), 5), (1, 0, 0, 0, 0))
        self.assertEqual(spread((7,), 40), (7,))

    def test_by_1_and_40(self):
        one = tuple(range(5, 46))
        self.assertEqual(spread(one, 1), one)
        self.assertEqual(spread(one, 40), (5,) + (0,) * 39 + (6,))
        self.assertEqual(spread(one[:40], 40), (5,) + (0,) * 39)

    def test_is_inside_a_power(self):
        one = tuple(range(-20, 21))
        for by in range(1, 41):
            power = tuple(1 if size == by else 0 for size in range(41))
            self.assertEqual(spread(one, by), inside(one, power))

    def test_no_numbers(self):
        for bad in JUNK + [0, 41, -1, True, False, 1.0, "1", (1,), [1], 10 ** 30]:
            with self.subTest(bad=bad):
                refused(self, BadNumber, spread, (0, 1), bad)

    def test_no_series_first(self):
        for bad in NO_SERIES:
            for by in (1, 0, True, None):
                with self.subTest(bad=bad):
                    refused(self, BadSeries, spread, bad, by)


class ToldValuesTest(unittest.TestCase):
    def test_all_told_are_series(self):
        for told in (added((0, 1), (2, 3)), times((0, 1), (2, 3)), rows_of((0, 1)), bags_of((0, 1)), sets_of((0, 1)),
                     inside((2, 1), (0, 3)), spread((1, 2), 2)):
            self.assertIsInstance(told, tuple)
            self.assertIs(is_series(told), True)


if __name__ == "__main__":
    unittest.main()
