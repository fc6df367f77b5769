"""Parts of numbers: [121] and the interface of stage 12, with [2] and [3] as far as parts hang on it."""

import time
import unittest
from itertools import combinations_with_replacement, product

from countworks.counts import counts
from countworks.errors import BadNumber, BadParts, Full
from countworks.parting import how_many_parts, laid_over, odd_of, parts, unlike_of
from countworks.things import listing
from tests.helper import JUNK, NAT, PLAIN, refused

NO_NUMBERS = [-1, True, False, None, "1", 1.0, (1,), [1], {}, "", {1: 1}]
NO_TRUTHS = [0, 1, None, "", "True", (), (True,), [], [False], {}, 1.0, -1]
CHOICES = [(odd, unlike) for odd in (False, True) for unlike in (False, True)]

# None of these are parts of a number up to 200.
NO_PARTS = [bad for bad in JUNK if bad != ()] + [
    [3, 1], [1], [], 3, "21", (0,), (1, 0), (2, 0, 0), (-1,), (3, -1), (1, 2), (3, 1, 2), (1, 1, 2), (True,), (2, True),
    (3, True, True), (2.0,), (2, 1.0), ("2",), (2, "1"), (2, None), (None,), ((2, 1),), (2, (1,)), ([2],), {2: 1}, {2, 1},
    (201,), (200, 1), (1,) * 201, (100, 100, 1), (2, 1, False), (10 ** 30,),
]


def made(number):
    """All parts of a number, made by taking all tuples of numbers that come to it."""
    found = set()
    for many in range(number + 1):
        for some in combinations_with_replacement(range(1, number + 1), many):
            if sum(some) == number:
                found.add(tuple(sorted(some, reverse=True)))
    return found


def chosen(found, most, odd, unlike):
    """Those of them with just such parts, greater ones ahead, place by place."""
    return sorted([
        some for some in found if max(some, default=0) <= most and (not odd or all(part % 2 for part in some))
        and (not unlike or len(set(some)) == len(some))
    ], reverse=True)


def ways(number, least, most, odd, unlike, known):
    """How many parts, by the least part: a road for greater numbers."""
    if number == 0:
        return 1
    if least > min(number, most):
        return 0
    if (number, least) not in known:
        told = ways(number, least + 1, most, odd, unlike, known)
        if least % 2 or not odd:
            told += ways(number - least, least + 1 if unlike else least, most, odd, unlike, known)
        known[(number, least)] = told
    return known[(number, least)]


class PartsTest(unittest.TestCase):
    def test_small_numbers(self):
        for number in range(9):
            found = made(number)
            for most in (0, 1, 2, 3, number, 60):
                for odd, unlike in CHOICES:
                    told = parts(number, most=most, odd=odd, unlike=unlike)
                    self.assertIs(type(told), list)
                    self.assertEqual(told, chosen(found, most, odd, unlike), (number, most, odd, unlike))
                    self.assertEqual(how_many_parts(number, most=most, odd=odd, unlike=unlike), len(told))

    def test_by_hand(self):
        self.assertEqual(parts(4), [(4,), (3, 1), (2, 2), (2, 1, 1), (1, 1, 1, 1)])
        self.assertEqual(parts(5, odd=True), [(5,), (3, 1, 1), (1, 1, 1, 1, 1)])
        self.assertEqual(parts(5, unlike=True), [(5,), (4, 1), (3, 2)])
        self.assertEqual(parts(8, odd=True, unlike=True), [(7, 1), (5, 3)])
        self.assertEqual(parts(5, most=2), [(2, 2, 1), (2, 1, 1, 1), (1, 1, 1, 1, 1)])

    def test_nought(self):
        for most in (0, 1, 60):
            for odd, unlike in CHOICES:
                self.assertEqual(parts(0, most=most, odd=odd, unlike=unlike), [()])
                self.assertEqual(how_many_parts(0, most=most, odd=odd, unlike=unlike), 1)
        self.assertEqual((parts(1, most=0), how_many_parts(200, most=0)), ([], 0))
        self.assertEqual((parts(30, most=1), parts(30, most=1, unlike=True)), ([(1,) * 30], []))

    def test_what_is_not_told_by_name(self):
        self.assertEqual(parts(7), parts(7, most=60, odd=False, unlike=False))
        self.assertEqual(how_many_parts(200), how_many_parts(200, most=60, odd=False, unlike=False))
        for ask in (parts, how_many_parts):
            with self.assertRaises(TypeError):
                ask(5, 3)

    def test_as_many_as_listed_or_full(self):
        for number in range(31):
            for most in (0, 1, 2, 5, 9, 30, 60):
                for odd, unlike in CHOICES:
                    many = how_many_parts(number, most=most, odd=odd, unlike=unlike)
                    if many > 3000:
                        with self.assertRaises(Full):
                            parts(number, most=most, odd=odd, unlike=unlike)
                        continue
                    told = parts(number, most=most, odd=odd, unlike=unlike)
                    self.assertEqual(len(told), many)
                    self.assertEqual(told, sorted(set(told), reverse=True))
                    for some in told:
                        self.assertEqual((sum(some), some), (number, tuple(sorted(some, reverse=True))))
                        self.assertEqual(chosen([some], most, odd, unlike), [some])

    def test_full(self):
        self.assertEqual((len(parts(26)), how_many_parts(26)), (2436, 2436))
        for number, many in ((27, 3010), (28, 3718), (30, 5604)):
            self.assertEqual(how_many_parts(number), many)
            refused(self, Full, parts, number)
        self.assertEqual(len(parts(30, odd=True)), 296)
        self.assertEqual(len(parts(30, unlike=True)), 296)

    def test_counted_by_another_road(self):
        for most in (0, 1, 2, 7, 30, 59, 60):
            for odd, unlike in CHOICES:
                known = {}
                for number in (0, 1, 30, 31, 60, 61, 100, 199, 200):
                    told = how_many_parts(number, most=most, odd=odd, unlike=unlike)
                    self.assertEqual(told, ways(number, 1, most, odd, unlike, known), (number, most, odd, unlike))

    def test_known_numbers(self):
        self.assertEqual([how_many_parts(number) for number in (10, 20, 40, 60)], [42, 627, 37338, 966467])
        self.assertEqual(how_many_parts(61), 1121505 - 1)

    def test_bags_and_sets_of_numbers(self):
        self.assertEqual(counts(PLAIN, ("bag", NAT), 40), [how_many_parts(number) for number in range(41)])
        self.assertEqual(counts(PLAIN, ("set", NAT), 40), [how_many_parts(number, unlike=True) for number in range(41)])
        for kind, unlike in (("bag", False), ("set", True)):
            for number in range(10):
                told = [tuple(sorted((1 + len(row) for letter, row in thing), reverse=True))
                        for thing in listing(PLAIN, (kind, NAT), number)]
                self.assertEqual(sorted(told, reverse=True), parts(number, unlike=unlike))

    def test_no_numbers(self):
        for ask, limit in ((parts, 30), (how_many_parts, 200)):
            ask(limit, most=3, unlike=True)
            for bad in NO_NUMBERS + [limit + 1, limit + 2, 1000]:
                with self.subTest(ask=ask.__name__, bad=bad):
                    refused(self, BadNumber, ask, bad)
                    refused(self, BadNumber, lambda: ask(bad, most=None, odd=3, unlike=[]))
            for bad in NO_NUMBERS + [61, 62, 200]:
                with self.subTest(ask=ask.__name__, most=bad):
                    refused(self, BadNumber, lambda: ask(5, most=bad))
                    refused(self, BadNumber, lambda: ask(30, most=bad, odd=None))
            for bad in NO_TRUTHS:
                with self.subTest(ask=ask.__name__, truth=bad):
                    refused(self, BadNumber, lambda: ask(5, odd=bad))
                    refused(self, BadNumber, lambda: ask(5, unlike=bad))
                    refused(self, BadNumber, lambda: ask(30, odd=bad, unlike=True))
                    refused(self, BadNumber, lambda: ask(30, odd=True, unlike=bad))

    def test_wrong_numbers_ahead_of_full(self):
        refused(self, BadNumber, lambda: parts(30, odd=0))
        refused(self, BadNumber, lambda: parts(30, most=61))
        refused(self, Full, lambda: parts(30, most=60, odd=False))

    def test_lists_are_new(self):
        parts(4).clear()
        self.assertEqual(len(parts(4)), 5)
        parts(0).append(1)
        self.assertEqual(parts(0), [()])

    def test_in_good_time(self):
        begin = time.perf_counter()
        for odd, unlike in CHOICES:
            how_many_parts(200, odd=odd, unlike=unlike)
            laid_over((200,))
        parts(26)
        parts(30, most=30, unlike=True)
        self.assertLess(time.perf_counter() - begin, 5)


class LaidOverTest(unittest.TestCase):
    def test_by_hand(self):
        self.assertEqual(laid_over(()), ())
        self.assertEqual(laid_over((1,)), (1,))
        self.assertEqual(laid_over((4, 2, 1)), (3, 2, 1, 1))
        self.assertEqual(laid_over((3, 3)), (2, 2, 2))
        self.assertEqual(laid_over((200,)), (1,) * 200)
        self.assertEqual(laid_over((1,) * 200), (200,))

    def test_by_its_words(self):
        for number in range(16):
            for some in parts(number):
                told = laid_over(some)
                self.assertIs(type(told), tuple)
                for place in range(1, number + 2):
                    many = len([part for part in some if part >= place])
                    self.assertEqual(told[place - 1] if place <= len(told) else 0, many)
                self.assertEqual(sum(told), number)
                self.assertEqual(laid_over(told), some)

    def test_one_to_one(self):
        for number in (0, 1, 7, 12):
            self.assertEqual(sorted(laid_over(some) for some in parts(number)), sorted(parts(number)))

    def test_no_parts(self):
        for bad in NO_PARTS:
            for ask in (laid_over, unlike_of, odd_of):
                with self.subTest(ask=ask.__name__, bad=bad):
                    refused(self, BadParts, ask, bad)

    def test_200(self):
        self.assertEqual(laid_over((100, 100)), (2,) * 100)
        self.assertEqual(unlike_of((1,) * 200), (128, 64, 8))
        self.assertEqual(odd_of((200,)), (25,) * 8)
        self.assertEqual(odd_of((199, 1)), (199, 1))


class OddUnlikeTest(unittest.TestCase):
    def test_by_hand(self):
        self.assertEqual(unlike_of(()), ())
        self.assertEqual(unlike_of((1, 1, 1)), (2, 1))
        self.assertEqual(unlike_of((3, 3, 1)), (6, 1))
        self.assertEqual(unlike_of((5, 3, 3, 3, 1, 1, 1, 1)), (6, 5, 4, 3))
        self.assertEqual(odd_of(()), ())
        self.assertEqual(odd_of((6, 5, 4, 3)), (5, 3, 3, 3, 1, 1, 1, 1))
        self.assertEqual(odd_of((8, 2)), (1,) * 10)

    def test_one_to_one_there_and_back(self):
        for number in range(31):
            odd, unlike = parts(number, odd=True), parts(number, unlike=True)
            self.assertEqual(sorted(map(unlike_of, odd)), sorted(unlike))
            self.assertEqual(sorted(map(odd_of, unlike)), sorted(odd))
            for some in odd:
                told = unlike_of(some)
                self.assertIs(type(told), tuple)
                self.assertEqual((sum(told), odd_of(told)), (number, some))
            for some in unlike:
                self.assertEqual(unlike_of(odd_of(some)), some)

    def test_each_part_by_itself(self):
        for part in (1, 3, 5, 7):
            for often in range(200 // part + 1):
                powers = [2 ** k for k in range(8) if often >> k & 1]
                self.assertEqual(unlike_of((part,) * often), tuple(part * power for power in reversed(powers)))

    def test_as_many_up_to_200(self):
        for number in range(61):
            self.assertEqual(how_many_parts(number, odd=True), how_many_parts(number, unlike=True))

    def test_not_odd_not_unlike(self):
        for bad in ((2,), (2, 1), (3, 2, 1), (4, 3), (5, 4), (200,), (2, 2)):
            refused(self, BadParts, unlike_of, bad)
        for bad in ((1, 1), (2, 2), (3, 1, 1), (3, 3, 2), (4, 4, 1), (100, 100)):
            refused(self, BadParts, odd_of, bad)
        for number, most in product((8, 9), (8,)):
            for some in parts(number, most=most):
                if any(part % 2 == 0 for part in some):
                    refused(self, BadParts, unlike_of, some)
                if len(set(some)) < len(some):
                    refused(self, BadParts, odd_of, some)


if __name__ == "__main__":
    unittest.main()
