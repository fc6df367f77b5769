"""Draws: [51] and the interface of stage 5, with [2] and [3] as far as draws hang on them."""

import copy
import random
import unittest
from collections import Counter
from itertools import product

from countworks.counts import count
from countworks.draws import digits_for, drawn, drawn_number
from countworks.errors import BadNumber, BadTape, Ended
from countworks.numbers import thing_at
from countworks.things import listing
from tests.helper import A, AB, ABC, BY_HAND, JUNK, NAT, NONE, PLAIN, UNIT, name, refused

NO_MANY = [bad for bad in JUNK if bad != 41] + [
    0, -1, -2, True, False, 1.0, 2.0, "1", "2", (1,), [1], [2], {1: 1}, -10 ** 30, None,
]

NO_TAPES = [bad for bad in JUNK if bad != []] + [
    (0, 1), (0,) * 20, "0101", b"0101", 0, 1, {0: 1}, {0, 1}, [True], [False], [0, True], [1, 0, False], [2], [-1],
    [0, 1, 2], [1.0], [0.0], ["0"], ["0", "1"], [None], [[0]], [(0,)], [0] * 20 + [True], [0] * 20 + [None], range(2),
    [[0, 1]], ([0, 1],),
]


def tapes(digits):
    return [list(tape) for tape in product((0, 1), repeat=digits)]


class DigitsForTest(unittest.TestCase):
    def test_by_hand(self):
        for many, told in ((1, 0), (2, 1), (3, 2), (4, 2), (5, 3), (7, 3), (8, 3), (9, 4), (1000, 10), (1024, 10),
                           (1025, 11)):
            self.assertEqual(digits_for(many), told)

    def test_as_few_as_can_tell_all(self):
        for many in range(1, 300):
            self.assertEqual(digits_for(many), next(k for k in range(20) if 2 ** k >= many))

    def test_powers_of_two_and_their_neighbours(self):
        for power in range(1, 200):
            self.assertEqual(digits_for(2 ** power), power)
            self.assertEqual(digits_for(2 ** power + 1), power + 1)
        for power in range(2, 200):
            self.assertEqual(digits_for(2 ** power - 1), power)

    def test_no_numbers(self):
        for bad in NO_MANY:
            with self.subTest(bad=bad):
                refused(self, BadNumber, digits_for, bad)


class DrawnNumberTest(unittest.TestCase):
    def test_all_tapes_of_the_needed_digits(self):
        for many in range(1, 70):
            digits = digits_for(many)
            found = []
            for tape in tapes(digits):
                number = int("0" + "".join(map(str, tape)), 2)
                if number < many:
                    self.assertEqual(drawn_number(many, tape), (number, digits))
                    found.append(number)
                else:
                    refused(self, Ended, drawn_number, many, tape)
            self.assertEqual(found, list(range(many)))

    def test_others_go_on(self):
        for many in (3, 5, 6, 7, 9, 13):
            digits = digits_for(many)
            found = Counter()
            for tape in tapes(2 * digits):
                first = int("".join(map(str, tape[:digits])), 2)
                second = int("".join(map(str, tape[digits:])), 2)
                if first < many:
                    self.assertEqual(drawn_number(many, tape), (first, digits))
                    found[first] += 1
                elif second < many:
                    self.assertEqual(drawn_number(many, tape), (second, 2 * digits))
                    found[second] += 1
                else:
                    refused(self, Ended, drawn_number, many, tape)
            # Each number as often as any other.
            self.assertEqual(len(set(found.values())), 1)
            self.assertEqual(sorted(found), list(range(many)))

    def test_again_and_again(self):
        self.assertEqual(drawn_number(5, [1, 1, 1] * 20 + [1, 0, 0]), (4, 63))
        self.assertEqual(drawn_number(5, [1, 0, 1] * 20 + [0, 1, 1, 1, 1]), (3, 63))
        refused(self, Ended, drawn_number, 5, [1, 1, 1] * 20)

    def test_the_first_digit_weighs_most(self):
        self.assertEqual(drawn_number(8, [1, 0, 0]), (4, 3))
        self.assertEqual(drawn_number(8, [0, 0, 1]), (1, 3))
        self.assertEqual(drawn_number(3, [1, 0]), (2, 2))

    def test_longer_tapes(self):
        self.assertEqual(drawn_number(2, [1, 0, 0, 1]), (1, 1))
        self.assertEqual(drawn_number(6, [1, 0, 1, 1, 1, 1, 0]), (5, 3))
        self.assertEqual(drawn_number(6, [1, 1, 1, 1, 0, 1, 0]), (5, 6))

    def test_one_takes_none(self):
        for tape in ([], [0], [1, 1, 1]):
            self.assertEqual(drawn_number(1, tape), (0, 0))

    def test_tapes_that_end_too_early(self):
        for many, tape in ((2, []), (3, []), (3, [0]), (3, [1, 1]), (3, [1, 1, 0]), (5, [0, 0]), (5, [1, 1, 1, 0, 0]),
                           (2 ** 100, [1] * 99)):
            with self.subTest(many=many, tape=tape):
                refused(self, Ended, drawn_number, many, tape)

    def test_great_numbers(self):
        self.assertEqual(drawn_number(2 ** 100, [1] * 100), (2 ** 100 - 1, 100))
        self.assertEqual(drawn_number(2 ** 100 + 1, [1] + [0] * 100), (2 ** 100, 101))
        self.assertEqual(drawn_number(2 ** 100 + 1, [1] * 101 + [0] * 100 + [1]), (1, 202))
        self.assertEqual(drawn_number(2 ** 20000, [1] * 20000)[1], 20000)

    def test_what_is_told_is_a_tuple_of_whole_numbers(self):
        told = drawn_number(4, [1, 1])
        self.assertEqual(repr(told), "(3, 2)")

    def test_no_numbers(self):
        for bad in NO_MANY:
            for tape in ([], [0, 1], None, [True]):
                with self.subTest(bad=bad):
                    refused(self, BadNumber, drawn_number, bad, tape)

    def test_no_tapes(self):
        for bad in NO_TAPES:
            for many in (1, 2, 3, 2 ** 50):
                with self.subTest(bad=bad, many=many):
                    refused(self, BadTape, drawn_number, many, bad)

    def test_tapes_stay(self):
        for tape in ([1, 1, 0, 1], [], [1, 1]):
            before = list(tape)
            try:
                drawn_number(3, tape)
            except Ended:
                pass
            self.assertEqual(repr(tape), repr(before))


class DrawnTest(unittest.TestCase):
    cases = [
        (PLAIN, ("row", AB), 3), (PLAIN, ("row", ABC), 2), (PLAIN, ("bag", ABC), 4), (PLAIN, ("set", NAT), 8),
        (PLAIN, name("m"), 2), (PLAIN, UNIT, 0), (PLAIN, A, 1), (BY_HAND["trees"], name("t"), 5),
        (BY_HAND["trees of bags"], name("t"), 5), (BY_HAND["three words"], name("p"), 3),
    ]

    def test_each_as_often_as_any_other(self):
        for book, making, size in self.cases:
            found = listing(book, making, size)
            digits = digits_for(len(found))
            for length in (digits, 2 * digits):
                told = Counter()
                for tape in tapes(length) if length <= 10 else []:
                    try:
                        thing, taken = drawn(book, making, size, tape)
                    except Ended:
                        continue
                    told[thing] += 1
                    self.assertIn(taken, (digits, 2 * digits))
                if length <= 10:
                    self.assertEqual(sorted(map(repr, told)), sorted(map(repr, found)))
                    self.assertEqual(len(set(told.values())), 1)

    def test_the_thing_with_the_drawn_number(self):
        chance = random.Random(51)
        for book, making, size in self.cases + [(BY_HAND["trees"], name("t"), 40), (PLAIN, ("bag", NAT), 40),
                                                (PLAIN, ("row", ABC), 0), (PLAIN, ("row", ABC), 40)]:
            many = count(book, making, size)
            for _ in range(5):
                tape = [chance.randint(0, 1) for _ in range(400)]
                number, taken = drawn_number(many, tape)
                told = drawn(book, making, size, tape)
                self.assertIsInstance(told, tuple)
                self.assertEqual(told, (thing_at(book, making, size, number), taken))

    def test_by_hand(self):
        self.assertEqual(drawn(PLAIN, ("row", AB), 3, [1, 0, 1, 1]), (((1, "b"), (0, "a"), (1, "b")), 3))
        self.assertEqual(drawn(PLAIN, ABC, 1, [1, 1, 1, 1, 0, 1]), ((1, (0, "b")), 6))
        self.assertEqual(drawn(PLAIN, A, 1, []), ("a", 0))
        self.assertEqual(drawn(PLAIN, UNIT, 0, [1]), ((), 0))

    def test_ended(self):
        refused(self, Ended, drawn, PLAIN, ("row", AB), 3, [1, 0])
        refused(self, Ended, drawn, PLAIN, ABC, 1, [1, 1])
        refused(self, Ended, drawn, PLAIN, ABC, 1, [1, 1, 1])
        refused(self, Ended, drawn, PLAIN, ("row", AB), 40, [1] * 39)

    def test_no_sizes(self):
        for bad in JUNK + [True, False, -1, 41, 1.0, "1", (1,), [1]]:
            for tape in ([], [0] * 9, None, [True]):
                with self.subTest(bad=bad):
                    refused(self, BadNumber, drawn, PLAIN, ("row", AB), bad, tape)

    def test_sizes_without_things(self):
        for making, size in ((NONE, 0), (NONE, 5), (UNIT, 1), (A, 0), (A, 2), (("set", A), 2), (("pair", A, NONE), 1)):
            for tape in ([], [0, 1], None, [True], "01"):
                with self.subTest(making=making, size=size, tape=tape):
                    refused(self, BadNumber, drawn, PLAIN, making, size, tape)

    def test_no_tapes(self):
        for bad in NO_TAPES:
            for making, size in ((A, 1), (("row", AB), 3)):
                with self.subTest(bad=bad):
                    refused(self, BadTape, drawn, PLAIN, making, size, bad)

    def test_what_is_handed_in_stays(self):
        for book, making, size in self.cases:
            before = copy.deepcopy(book)
            tape = [0] * 40
            drawn(book, making, size, tape)
            self.assertEqual(tape, [0] * 40)
            self.assertEqual(list(book.items()), list(before.items()))


if __name__ == "__main__":
    unittest.main()
