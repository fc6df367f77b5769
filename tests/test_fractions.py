"""Fractions: [71] and the interface of stage 7, with [2] and [3] as far as fractions hang on it."""

import random
import time
import unittest

from countworks.counts import counts
from countworks.errors import BadBook, BadMaking, BadNumber, BadSeries, NoRule, NotPlain
from countworks.fractions import added_of, fraction, going_on, is_plain, parted_size, terms, times_of
from tests.helper import (
    A, AB, ABC, B, EVERY_BUNCH, EVERY_KIND, JUNK, MIXED, NAT, NONE, PLAIN, UNIT, name, of_parts, parts, refused,
    series_counts, small_cases, some_fair_book, some_making_of, total,
)

LINE = {
    "a": ("pair", A, name("b")), "b": ("sum", name("c"), ("row", name("c"))), "c": ("pair", A, ("row", B)),
    "bag": ("bag", A), "set": ("pair", B, ("set", A)), "to": ("sum", A, name("bag")), "self": ("pair", A, name("self")),
    "ring": ("sum", A, ("pair", A, name("self"))),
}

# None of these is a pair of tuples of up to 60 whole numbers, the second beginning with 1.
NO_PAIRS = JUNK + [
    ((), ()), ((1,), ()), ((1,), (0,)), ((1,), (0, 1)), ((1,), (2,)), ((1,), (-1,)), ((1,), (True,)), ((), (True, 1)),
    ((True,), (1,)), ((1, False), (1,)), ((1,), (1, False)), ((1,), (1, 2, True)), ([], (1,)), ((), [1]), ([1], [1]),
    [(), (1,)], [(1,), (1,)], ((1,), (1,), (1,)), ((1,),), ((1.0,), (1,)), (("1",), (1,)), ((1,), ("1",)),
    ((None,), (1,)), ((1,), (1, None)), ((1,), None), (None, (1,)), ("", (1,)), ((1,), "1"), (((1,),), (1,)),
    ((1,) * 61, (1,)), ((1,), (1,) * 61), ((0,) * 61, (1,)), ((1,), (1,) + (0,) * 60), {0: (), 1: (1,)}, ((1,), 1),
]


def by(one, other):
    told = [0] * (len(one) + len(other))
    for at, left in enumerate(one):
        for place, right in enumerate(other):
            told[at + place] += left * right
    return cut(told)


def cut(factors):
    factors = list(factors)
    while factors and factors[-1] == 0:
        factors.pop()
    return tuple(factors)


def summed(one, other):
    most = max(len(one), len(other))
    return cut([sum(part[k] for part in (one, other) if k < len(part)) for k in range(most)])


PRIME = 2 ** 127 - 1


def are_apart(one, other):
    """Whether two have no common divisor but numbers: they have none if they have none by some prime."""
    one, other = cut([x % PRIME for x in one]), cut([x % PRIME for x in other])
    while other:
        rest, turn = list(one), pow(other[-1], -1, PRIME)
        while len(rest) >= len(other):
            factor = rest[-1] * turn % PRIME
            for k in range(len(other)):
                place = len(rest) - len(other) + k
                rest[place] = (rest[place] - factor * other[k]) % PRIME
            rest.pop()
        one, other = other, cut(rest)
    return len(one) == 1


def tower(many, make, last):
    """A book in which each word's rule is made of the next word's name, the last one of what is told."""
    words = "abcdefgh"[:many]
    book = {word: make(name(after)) for word, after in zip(words, words[1:])}
    return {**book, words[-1]: last}


def doubled(making):
    return ("pair", making, making)


def plain_cases(chance, many):
    for making in EVERY_KIND + EVERY_BUNCH:
        if not any(part[0] in ("bag", "set") for part in parts(making)):
            yield PLAIN, making
    for word in ("a", "b", "c"):
        yield LINE, name(word)
        yield LINE, ("row", ("pair", name(word), MIXED))
    while many:
        book = some_fair_book(chance, chance.randint(1, 4), 4)
        making = some_making_of(chance, book, 5)
        if len(parts(making)) <= 40 and is_plain(book, making) and counts(book, making, 9)[1:] != [0] * 9:
            many -= 1
            yield book, making


class IsPlainTest(unittest.TestCase):
    def test_without_names(self):
        for making in EVERY_KIND + EVERY_BUNCH:
            told = not any(part[0] in ("bag", "set") for part in parts(making))
            self.assertIs(is_plain(PLAIN, making), told, making)

    def test_deep_within(self):
        for kind, told in (("row", True), ("bag", False), ("set", False)):
            making = (kind, A)
            for around in (("pair", A, making), ("sum", making, A), ("row", ("pair", making, A)), ("pair", NONE, making)):
                self.assertIs(is_plain(PLAIN, around), told)
                self.assertIs(is_plain({"w": around}, name("w")), told)
                self.assertIs(is_plain({"w": around, "v": ("pair", name("w"), A)}, ("sum", A, name("v"))), told)
                self.assertIs(is_plain({"w": around, "v": A}, name("v")), True)

    def test_rules_that_it_leads_to(self):
        for word, told in (("a", True), ("b", True), ("c", True), ("bag", False), ("set", False), ("to", False),
                           ("self", False), ("ring", False)):
            self.assertIs(is_plain(LINE, name(word)), told, word)
            self.assertIs(is_plain(LINE, ("pair", A, name(word))), told, word)
            self.assertIs(is_plain(LINE, ("sum", name("a"), ("pair", B, name(word)))), told, word)
        self.assertIs(is_plain(LINE, A), True)

    def test_words_that_lead_to_themselves(self):
        for rule in (("pair", A, name("w")), ("sum", B, ("pair", A, name("w"))), ("pair", NONE, name("w")),
                     ("pair", name("w"), NONE), ("pair", name("w"), A), ("sum", UNIT, ("pair", A, name("w"))),
                     ("row", ("pair", A, name("w"))), ("pair", ("pair", UNIT, A), name("w"))):
            self.assertIs(is_plain({"w": rule}, name("w")), False, rule)
            self.assertIs(is_plain({"w": rule, "v": A}, name("v")), True, rule)
            self.assertIs(is_plain({"w": rule}, A), True, rule)
            self.assertIs(is_plain({"w": rule, "v": ("pair", UNIT, name("w"))}, ("pair", NONE, name("v"))), False, rule)

    def test_rings_through_others(self):
        ring = {"p": ("pair", A, name("q")), "q": ("sum", B, ("pair", A, name("r"))), "r": ("pair", NONE, name("p")),
                "s": ("sum", UNIT, name("p")), "t": ("pair", A, A)}
        for word, told in (("p", False), ("q", False), ("r", False), ("s", False), ("t", True)):
            self.assertIs(is_plain(ring, name(word)), told)
        self.assertIs(is_plain({**ring, "r": A}, name("s")), True)

    def test_the_same_word_twice_is_no_ring(self):
        book = tower(8, doubled, A)
        for word in book:
            self.assertIs(is_plain(book, name(word)), True)
        self.assertIs(is_plain(book, ("pair", name("a"), ("sum", name("b"), name("a")))), True)


class FractionTest(unittest.TestCase):
    def test_by_hand(self):
        for making, top, below in (
            (NONE, (), (1,)), (UNIT, (1,), (1,)), (A, (0, 1), (1,)), (AB, (0, 2), (1,)), (("pair", A, B), (0, 0, 1), (1,)),
            (("row", A), (1,), (1, -1)), (("row", AB), (1,), (1, -2)), (("row", NONE), (1,), (1,)),
            (NAT, (0, 1), (1, -1)), (("row", NAT), (1, -1), (1, -2)), (("sum", UNIT, NAT), (1,), (1, -1)),
            (("row", ("sum", A, ("pair", A, A))), (1,), (1, -1, -1)), (("pair", ("row", A), ("row", A)), (1,), (1, -2, 1)),
            (("sum", ("row", A), ("row", AB)), (2, -3), (1, -3, 2)), (("pair", NONE, ("row", A)), (), (1,)),
            (("sum", ("row", A), ("row", A)), (2,), (1, -1)), (("sum", UNIT, UNIT), (2,), (1,)),
            (name("u"), (1,), (1,)), (name("m"), (0, 2, 6), (1,)), (("row", name("m")), (1,), (1, -2, -6)),
        ):
            self.assertEqual(fraction(PLAIN, making), (top, below), making)

    def test_what_is_common_goes(self):
        both = ("pair", ("row", NAT), ("row", A))
        self.assertEqual(fraction(PLAIN, both), ((1,), (1, -2)))
        self.assertEqual(fraction(PLAIN, ("pair", ("row", NAT), ("row", AB))), ((1, -1), (1, -4, 4)))
        even = ("row", ("pair", A, A))
        self.assertEqual(fraction(PLAIN, ("sum", even, ("pair", A, even))), ((1,), (1, -1)))
        self.assertEqual(fraction(PLAIN, ("pair", even, ("sum", UNIT, A))), ((1,), (1, -1)))

    def test_told_form_and_counts(self):
        chance = random.Random(71)
        for book, making in plain_cases(chance, 30):
            with self.subTest(book=book, making=making):
                told = fraction(book, making)
                self.assertIs(type(told), tuple)
                top, below = told
                for side in told:
                    self.assertIs(type(side), tuple)
                    self.assertTrue(all(type(factor) is int for factor in side))
                    self.assertEqual(side, cut(side))
                self.assertEqual(below[0], 1)
                if top == ():
                    self.assertEqual(below, (1,))
                else:
                    self.assertTrue(are_apart(top, below))
                many = series_counts(book, making, 60)
                product = by(below, many)[:61] + (0,) * 61
                self.assertEqual(product[:61], (top + (0,) * 61)[:61])
                self.assertEqual(counts(book, making, 40), many[:41])

    def test_the_same_counts_have_the_same_fraction(self):
        for one, other in (
            (("row", AB), ("pair", ("row", A), ("row", NAT))), (("row", A), ("sum", UNIT, NAT)), (AB, ("sum", B, A)),
            (("row", A), ("sum", ("row", ("pair", A, B)), ("pair", A, ("row", ("pair", B, B))))),
            (("pair", UNIT, AB), AB), (("pair", NONE, AB), NONE),
            (("row", NAT), ("sum", UNIT, ("pair", A, ("row", AB)))),
        ):
            self.assertEqual(fraction(PLAIN, one), fraction(PLAIN, other))

    def test_not_plain(self):
        for word in ("bag", "set", "to", "self", "ring"):
            for ask in (fraction, going_on):
                refused(self, NotPlain, ask, LINE, name(word))
                refused(self, NotPlain, ask, LINE, ("pair", NONE, name(word)))
            refused(self, NotPlain, parted_size, LINE, name(word), A)
            refused(self, NotPlain, parted_size, LINE, A, name(word))
            refused(self, NotPlain, parted_size, LINE, name(word), name(word))
        refused(self, NotPlain, fraction, PLAIN, ("bag", A))
        refused(self, NotPlain, fraction, PLAIN, ("set", NONE))

    def test_full_makings(self):
        begin = time.perf_counter()
        crowd = [("row", ("pair", A, ("row", letter))) for letter in (AB, A, B)]
        wide = total(*[("pair", crowd[k], ("row", ("pair", B, AB))) for k in range(3)])
        self.assertEqual(len(parts(wide)), 40)
        self.assertEqual(terms(fraction(PLAIN, wide), 40), counts(PLAIN, wide, 40))
        for book in (tower(8, doubled, ("row", AB)), tower(8, lambda one: ("sum", doubled(one), ("pair", A, one)), NAT),
                     tower(8, lambda one: ("pair", A, ("row", ("pair", A, ("sum", one, doubled(one))))), A)):
            top, below = fraction(book, name("a"))
            many = counts(book, name("a"), 40)
            self.assertEqual((by(below, many) + (0,) * 41)[:41], (top + (0,) * 41)[:41])
        self.assertEqual(fraction(tower(8, lambda one: doubled(doubled(one)), A), name("b"))[0], (0,) * 4 ** 6 + (1,))
        wide = tower(8, lambda one: doubled(doubled(doubled(doubled(one)))), UNIT)
        self.assertEqual(fraction(wide, name("a")), ((1,), (1,)))
        self.assertIsNone(parted_size(wide, name("a"), UNIT))
        self.assertLess(time.perf_counter() - begin, 20)


class TermsTest(unittest.TestCase):
    def test_the_counts(self):
        for book, making in plain_cases(random.Random(72), 60):
            pair = fraction(book, making)
            if max(len(pair[0]), len(pair[1])) <= 60:
                many = counts(book, making, 40)
                self.assertEqual(terms(pair, 40), many)
                self.assertEqual(terms(pair, 0), many[:1])
                self.assertEqual(terms(pair, 7), many[:8])

    def test_other_pairs(self):
        self.assertEqual(terms(((), (1,)), 3), [0, 0, 0, 0])
        self.assertEqual(terms(((0, 0), (1, 0, 0)), 2), [0, 0, 0])
        self.assertEqual(terms(((5, -7), (1,)), 3), [5, -7, 0, 0])
        self.assertEqual(terms(((1,), (1, 1)), 4), [1, -1, 1, -1, 1])
        self.assertEqual(terms(((1,), (1, -1, -1)), 8), [1, 1, 2, 3, 5, 8, 13, 21, 34])
        self.assertEqual(terms(((1, -1), (1, -1)), 4), [1, 0, 0, 0, 0])
        self.assertEqual(terms(((0, 1), (1, -3, 0)), 4), [0, 1, 3, 9, 27])

    def test_below_times_told_is_top(self):
        chance = random.Random(73)
        for _ in range(60):
            top = tuple(chance.randint(-9, 9) for _ in range(chance.randint(0, 60)))
            below = (1,) + tuple(chance.randint(-9, 9) for _ in range(chance.randint(0, 59)))
            most = chance.randint(0, 40)
            told = terms((top, below), most)
            self.assertIs(type(told), list)
            self.assertEqual(len(told), most + 1)
            self.assertEqual((by(below, told) + (0,) * 41)[:most + 1], (top + (0,) * 41)[:most + 1])

    def test_lengths(self):
        self.assertEqual(terms(((1,) * 60, (1,)), 40), [1] * 41)
        self.assertEqual(terms(((1,), (1,) + (0,) * 59), 2), [1, 0, 0])
        self.assertEqual(terms(((1,) * 60, (1,) * 60), 3), [1, 0, 0, 0])
        for bad in (((1,) * 61, (1,)), ((1,), (1,) * 61), ((1,) * 61, (1,) * 61)):
            refused(self, BadSeries, terms, bad, 3)

    def test_no_pairs(self):
        for bad in NO_PAIRS:
            for most in (3, True, -1, None):
                with self.subTest(bad=bad):
                    refused(self, BadSeries, terms, bad, most)

    def test_no_sizes(self):
        for bad in (-1, 41, 100, True, False, None, "1", 1.0, (1,), [1], {}):
            with self.subTest(bad=bad):
                refused(self, BadNumber, terms, ((1,), (1,)), bad)


class PartedTest(unittest.TestCase):
    def told(self, book, one, other, size):
        self.assertEqual(parted_size(book, one, other), size, (one, other))
        self.assertEqual(parted_size(book, other, one), size, (other, one))

    def test_alike(self):
        for one, other in (
            (A, B), (("row", AB), ("pair", ("row", A), ("row", NAT))), (NONE, ("pair", NONE, A)),
            (("row", A), ("sum", UNIT, ("pair", A, ("row", A)))), (ABC, ("sum", AB, ("atom", "z"))), (name("m"), MIXED),
            (("pair", AB, MIXED), ("pair", MIXED, AB)), (("row", NAT), ("sum", UNIT, ("pair", A, ("row", AB)))),
        ):
            self.told(PLAIN, one, other, None)

    def test_parted(self):
        for one, other, size in (
            (A, NONE, 1), (UNIT, NONE, 0), (UNIT, A, 0), (A, AB, 1), (("row", A), ("row", AB), 1), (NAT, ("row", A), 0),
            (("row", A), ("sum", UNIT, A), 2), (("row", ("pair", A, A)), ("row", A), 1), (MIXED, AB, 2),
        ):
            self.told(PLAIN, one, other, size)

    def test_as_the_counts_part(self):
        cases = list(plain_cases(random.Random(74), 80))
        many = {}
        for book, making in cases:
            if book == PLAIN:
                many[making] = series_counts(book, making, 60)
        for one in many:
            for other in many:
                parted = [k for k in range(61) if many[one][k] != many[other][k]]
                self.assertEqual(parted_size(PLAIN, one, other), parted[0] if parted else None)

    def test_parted_at_great_sizes(self):
        for deep in range(1, 8):
            book = tower(8, doubled, A)
            book["a"] = ("sum", ("row", A), name("bcdefgh"[7 - deep]))
            self.told(book, name("a"), ("row", A), 2 ** (deep - 1))
        book = tower(8, lambda one: doubled(doubled(one)), A)
        self.told(book, name("b"), name("c"), 4 ** 5)
        self.told(book, name("b"), NONE, 4 ** 6)
        self.told(book, ("sum", ("row", AB), name("b")), ("row", AB), 4 ** 6)
        self.told(book, ("sum", ("row", AB), name("b")), ("sum", name("b"), ("row", ("sum", B, A))), None)

    def test_the_second_making(self):
        for bad in JUNK + [of_parts(41), ("row", UNIT)]:
            refused(self, BadMaking, parted_size, LINE, A, bad)
        self.assertEqual(refused(self, NoRule, parted_size, LINE, A, ("sum", name("zz"), name("yy"))).lacks, "yy")

    def test_the_making_handed_in_first(self):
        refused(self, NotPlain, parted_size, LINE, name("bag"), None)
        refused(self, NotPlain, parted_size, LINE, name("self"), name("zz"))
        refused(self, BadMaking, parted_size, LINE, None, name("bag"))
        refused(self, NoRule, parted_size, LINE, name("zz"), name("bag"))
        refused(self, NoRule, parted_size, LINE, ("bag", name("zz")), None)
        refused(self, BadBook, parted_size, {}, name("bag"), None)


class GoingOnTest(unittest.TestCase):
    def test_by_hand(self):
        for making, told in (
            (NONE, (0, ())), (UNIT, (1, ())), (A, (2, ())), (("pair", A, A), (3, ())), (("row", A), (1, (1,))),
            (("row", ("sum", A, ("pair", A, A))), (1, (1, 1))), (NAT, (2, (1,))), (("row", NAT), (2, (2,))),
            (("row", ("pair", A, A)), (1, (0, 1))), (("sum", ("row", A), ("row", AB)), (2, (3, -2))),
        ):
            self.assertEqual(going_on(PLAIN, making), told, making)

    def test_each_count_is_told(self):
        for book, making in plain_cases(random.Random(75), 40):
            first, factors = going_on(book, making)
            self.assertIs(type(factors), tuple)
            self.assertEqual(first, len(fraction(book, making)[0]))
            many = series_counts(book, making, 60)
            for size in range(first, 61):
                told = sum(factor * many[size - 1 - at] for at, factor in enumerate(factors) if size - 1 - at >= 0)
                self.assertEqual(told, many[size], (book, making, size))
            if 0 < first <= 60:
                size = first - 1
                told = sum(factor * many[size - 1 - at] for at, factor in enumerate(factors) if size - 1 - at >= 0)
                self.assertNotEqual(told, many[size], (book, making, size))


class TimesAddedTest(unittest.TestCase):
    def told(self, one, other):
        for ask, top, below in (
            (times_of, by(one[0], other[0]), by(one[1], other[1])),
            (added_of, summed(by(one[0], other[1]), by(other[0], one[1])), by(one[1], other[1])),
        ):
            told = ask(one, other)
            self.assertEqual(told, ask(other, one))
            self.assertEqual(by(told[0], below), by(told[1], top))
            self.assertEqual((told[0], told[1], told[1][0]), (cut(told[0]), cut(told[1]), 1))
            if told[0] == ():
                self.assertEqual(told[1], (1,))
            else:
                self.assertTrue(are_apart(told[0], told[1]))

    def test_by_hand(self):
        self.assertEqual(times_of(((1,), (1, -1)), ((1, -1), (1,))), ((1,), (1,)))
        self.assertEqual(times_of(((1,), (1, -1)), ((1,), (1, -1))), ((1,), (1, -2, 1)))
        self.assertEqual(added_of(((1,), (1, -1)), ((1,), (1, -1))), ((2,), (1, -1)))
        self.assertEqual(added_of(((1,), (1, -1)), ((-1,), (1, -1))), ((), (1,)))
        self.assertEqual(added_of(((1,), (1, -1)), ((1,), (1, 1))), ((2,), (1, 0, -1)))
        self.assertEqual(added_of(((1,), (1, 0, -1)), ((0, 1), (1, 0, -1))), ((1,), (1, -1)))
        self.assertEqual(times_of(((), (1, 2, 3)), ((4,), (1, 5))), ((), (1,)))
        self.assertEqual(added_of(((), (1, 2)), ((4,), (1, 5))), ((4,), (1, 5)))
        self.assertEqual(times_of(((2,), (1,)), ((3, 3), (1,))), ((6, 6), (1,)))

    def test_not_in_lowest_terms(self):
        self.assertEqual(added_of(((2, 2), (1, 1)), ((), (1,))), ((2,), (1,)))
        self.assertEqual(times_of(((2, 2, 0), (1, 1, 0, 0)), ((1, 0), (1, 0))), ((2,), (1,)))
        self.assertEqual(times_of(((0, 0), (1, 7)), ((0,), (1, 7))), ((), (1,)))
        self.assertEqual(added_of(((0, 1, -1), (1, -1)), ((0, 2, -4), (1, -2))), ((0, 3), (1,)))

    def test_common_factors_by_chance(self):
        chance = random.Random(76)

        def some(many, most, first=None):
            found = [chance.randint(-most, most) for _ in range(chance.randint(1, many))]
            return tuple(found if first is None else [first] + found[1:])

        for most in (1, 1, 2, 9, 10 ** 6, 10 ** 40):
            for _ in range(25):
                shared = [some(5, most, 1) for _ in range(3)]
                one = by(some(6, most), shared[0]), by(by(some(4, most, 1), shared[1]), shared[chance.randint(0, 2)])
                other = by(some(6, most), shared[1]), by(by(some(4, most, 1), shared[0]), shared[chance.randint(0, 2)])
                self.told(one, other)

    def test_factors_that_a_great_number_divides(self):
        """Whoever reckons by a great number must not take what is alike by it for alike."""
        one = ((1,), (1,))
        for prime in (2 ** 31 - 1, 2 ** 61 - 1, 2 ** 64, (2 ** 61 - 1) * (2 ** 61 - 2) + 1, 2 ** 89 - 1):
            for pair in (((1, 3 + prime), (1, 3)), ((1, 3), (1, 3 + prime)), ((1, 3, prime), (1, 3)), ((1,), (1, prime)),
                         ((prime,), (1, prime)), ((1, 3), (1, 3, prime)), ((prime, 1), (1, 0, prime))):
                self.assertEqual(times_of(pair, one), pair)
                self.assertEqual(added_of(pair, ((), (1, 1))), pair)
                self.assertEqual(times_of((by(pair[0], (1, prime)), by(pair[1], (1, prime))), one),
                                 times_of(pair, one))
                self.told(pair, ((1, prime), (1, -prime)))
                self.told(pair, (by(pair[1], (1, 1)), by((1, 1), (1, -prime, 5))))
            self.assertEqual(times_of(((prime, 0, prime), (1, 0, 1)), one), ((prime,), (1,)))

    def test_of_makings(self):
        cases = [making for book, making in plain_cases(random.Random(77), 0) if book == PLAIN]
        for one, other in zip(cases, cases[1:] + cases[:1]):
            left, right = fraction(PLAIN, one), fraction(PLAIN, other)
            self.assertEqual(times_of(left, right), fraction(PLAIN, ("pair", one, other)))
            self.assertEqual(added_of(left, right), fraction(PLAIN, ("sum", one, other)))

    def test_60_factors(self):
        begin = time.perf_counter()
        chance = random.Random(78)
        for most in (1, 10 ** 9):
            sides = [tuple(chance.randint(-most, most) or 1 for _ in range(60)) for _ in range(4)]
            one, other = (sides[0], (1,) + sides[1][1:]), (sides[2], (1,) + sides[3][1:])
            for ask in (times_of, added_of):
                top, below = ask(one, other)
                self.assertEqual(len(below), 119)
            self.assertEqual(times_of(one, one)[1], by(one[1], one[1]))
            self.assertEqual(added_of(one, one), (tuple(2 * factor for factor in one[0]), one[1]))
        self.assertLess(time.perf_counter() - begin, 10)

    def test_no_pairs(self):
        for bad in NO_PAIRS:
            for ask in (times_of, added_of):
                with self.subTest(bad=bad):
                    refused(self, BadSeries, ask, bad, ((1,), (1,)))
                    refused(self, BadSeries, ask, ((1,), (1,)), bad)
                    refused(self, BadSeries, ask, bad, bad)

    def test_what_is_handed_in_stays(self):
        one, other = ((1, 1, 0), (1, 1, 0)), ((2, 0), (1, 3, 0))
        for ask in (times_of, added_of):
            ask(one, other)
        terms(one, 5)
        self.assertEqual((one, other), (((1, 1, 0), (1, 1, 0)), ((2, 0), (1, 3, 0))))

    def test_lists_are_new(self):
        pair = ((1,), (1, -2))
        terms(pair, 5).clear()
        self.assertEqual(terms(pair, 5), [1, 2, 4, 8, 16, 32])


class SmallCasesTest(unittest.TestCase):
    def test_plain_or_refused(self):
        for book, making in small_cases(random.Random(79), 60):
            if is_plain(book, making):
                self.assertEqual(terms(fraction(book, making), 40), counts(book, making, 40))
            else:
                refused(self, NotPlain, fraction, book, making)


if __name__ == "__main__":
    unittest.main()
