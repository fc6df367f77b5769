"""Rings of letters: [101] and the interface of stage 10, with [2] and [3] as far as rings hang on it."""

import time
import unittest
from itertools import product

from countworks.errors import BadNumber, BadWord, Full
from countworks.rings import falls, how_many_rings, how_many_simple, rings, round_of, simple_rings
from tests.helper import JUNK, refused

NO_LETTERS = [bad for bad in JUNK if bad != "a"] + [
    "", "abcde", "ba", "aa", "aab", "acb", "abca", "abb", "A", "aB", "Ab", "a1", "1", " ", "a ", " a", "a b", "\u00e9",
    "a\u00e9", "\uff41", ("a",), ("a", "b"), ["a"], ["a", "b"], {"a": 1}, {"a", "b"}, b"ab", 1, 0,
]
NO_TEXTS = [bad for bad in JUNK if bad != ""] + [
    "A", "aB", "a1", " ", "a a", "a\n", "\n", "\u00e9", "\uff41", "a" * 61, "a" * 100, "a" * 59 + "A", ("a",), ["a"],
    {"a": 1}, b"a", 0, 1, "\u0430",
]
NO_SIZES = [0, -1, True, False, None, "1", 1.0, (1,), [1], {}, {1: 1}]


def turns(text):
    return [text[k:] + text[:k] for k in range(len(text))]


def is_simple(text):
    return text != "" and all(text < other for other in turns(text)[1:])


def texts(letters, size):
    return ["".join(found) for found in product(letters, repeat=size)]


def rounds(letters, size):
    return sorted({min(turns(text)) for text in texts(letters, size)})


def partings(text):
    """All ways to part a text into simple rounds, none less than the one behind it."""
    if text == "":
        return [[]]
    return [
        [text[:k]] + rest for k in range(1, len(text) + 1) if is_simple(text[:k]) for rest in partings(text[k:])
        if not rest or text[:k] >= rest[0]
    ]


def together(one, other):
    while other:
        one, other = other, one % other
    return one


def turned_about(kinds, size):
    """Rings by turning: each turn leaves as many texts as they have letters free."""
    return sum(kinds ** together(k, size) for k in range(size)) // size


def without_squares(number):
    """Nought where a square divides the number, else 1 or -1 by how many primes do."""
    sign = 1
    for prime in range(2, number + 1):
        if number % prime == 0:
            number //= prime
            if number % prime == 0:
                return 0
            sign = -sign
    return sign


def simple_by_divisors(kinds, size):
    return sum(without_squares(d) * kinds ** (size // d) for d in range(1, size + 1) if size % d == 0) // size


class RoundTest(unittest.TestCase):
    def test_all_small_texts(self):
        for letters, most in (("ab", 8), ("abc", 5), ("mnxz", 4)):
            for size in range(1, most + 1):
                for text in texts(letters, size):
                    self.assertEqual(round_of(text), min(turns(text)))

    def test_lengths(self):
        self.assertEqual(round_of(""), "")
        self.assertEqual(round_of("z"), "z")
        self.assertEqual(round_of("z" * 59 + "a"), "a" + "z" * 59)
        self.assertEqual(round_of("ba" * 30), "ab" * 30)
        self.assertEqual(round_of("zyxwvutsrqponmlkjihgfedcba"), "azyxwvutsrqponmlkjihgfedcb")

    def test_no_texts(self):
        for bad in NO_TEXTS:
            for ask in (round_of, falls):
                with self.subTest(bad=bad):
                    refused(self, BadWord, ask, bad)


class FallsTest(unittest.TestCase):
    def test_all_small_texts(self):
        for letters, most in (("ab", 9), ("abc", 6), ("mnxz", 4)):
            for size in range(most + 1):
                for text in texts(letters, size):
                    told = falls(text)
                    self.assertIs(type(told), list)
                    self.assertEqual([told], partings(text))

    def test_by_hand(self):
        self.assertEqual(falls(""), [])
        self.assertEqual(falls("a"), ["a"])
        self.assertEqual(falls("ba"), ["b", "a"])
        self.assertEqual(falls("abab"), ["ab", "ab"])
        self.assertEqual(falls("banana"), ["b", "an", "an", "a"])
        self.assertEqual(falls("a" * 60), ["a"] * 60)
        self.assertEqual(falls("ab" * 30), ["ab"] * 30)
        self.assertEqual(falls("a" * 59 + "b"), ["a" * 59 + "b"])
        self.assertEqual(falls("abcdefghijklmnopqrstuvwxyz" * 2), ["abcdefghijklmnopqrstuvwxyz"] * 2)

    def test_long_texts(self):
        for text in ("mississippi" * 5, "ab" * 20 + "aab" * 6 + "a", "zyx" * 20, "aabaab" * 9 + "aabaa"):
            told = falls(text)
            self.assertEqual("".join(told), text)
            self.assertTrue(all(map(is_simple, told)))
            self.assertEqual(told, sorted(told, reverse=True))

    def test_lists_are_new(self):
        falls("ba").clear()
        self.assertEqual(falls("ba"), ["b", "a"])


class RingsTest(unittest.TestCase):
    def test_small_sizes(self):
        for letters, most in (("a", 12), ("z", 3), ("ab", 12), ("bx", 6), ("abc", 8), ("akz", 5), ("abcd", 6), ("fmno", 4)):
            for size in range(1, most + 1):
                found = rounds(letters, size)
                simple = [text for text in found if is_simple(text)]
                self.assertEqual(rings(letters, size), found, (letters, size))
                self.assertEqual(simple_rings(letters, size), simple, (letters, size))
                self.assertEqual(how_many_rings(letters, size), len(found))
                self.assertEqual(how_many_simple(letters, size), len(simple))

    def test_as_many_as_listed_or_full(self):
        for letters in ("a", "ab", "abc", "abcd"):
            for size in range(1, 13):
                for ask, many in ((rings, how_many_rings), (simple_rings, how_many_simple)):
                    if many(letters, size) > 3000:
                        refused(self, Full, ask, letters, size)
                    else:
                        told = ask(letters, size)
                        self.assertEqual(len(told), many(letters, size))
                        self.assertEqual(told, sorted(set(told)))

    def test_full(self):
        for letters, size in (("abc", 10), ("abc", 12), ("abcd", 8), ("abcd", 12)):
            refused(self, Full, rings, letters, size)
            refused(self, Full, simple_rings, letters, size)
        self.assertEqual((len(rings("abc", 9)), len(rings("abcd", 7)), len(rings("ab", 12))), (2195, 2344, 352))
        self.assertEqual((len(simple_rings("abc", 9)), len(simple_rings("abcd", 7))), (2184, 2340))

    def test_how_many_by_other_roads(self):
        for kinds in range(1, 5):
            for size in range(1, 41):
                self.assertEqual(how_many_rings("abcd"[:kinds], size), turned_about(kinds, size))
                self.assertEqual(how_many_rings("kmxz"[:kinds], size), turned_about(kinds, size))
                self.assertEqual(how_many_simple("abcd"[:kinds], size), simple_by_divisors(kinds, size))

    def test_one_letter(self):
        self.assertEqual((rings("q", 1), simple_rings("q", 1)), (["q"], ["q"]))
        self.assertEqual((rings("q", 12), simple_rings("q", 12)), (["q" * 12], []))
        self.assertEqual((how_many_rings("q", 40), how_many_simple("q", 40)), (1, 0))

    def test_no_letters(self):
        for bad in NO_LETTERS:
            for ask in (rings, simple_rings, how_many_rings, how_many_simple):
                for size in (3, 0, True, 41, None):
                    with self.subTest(bad=bad):
                        refused(self, BadWord, ask, bad, size)

    def test_no_sizes(self):
        for ask, most in ((rings, 12), (simple_rings, 12), (how_many_rings, 40), (how_many_simple, 40)):
            ask("ab", 1)
            ask("ab", most)
            for bad in NO_SIZES + [most + 1, most + 2, 100]:
                for letters in ("ab", "abcd"):
                    with self.subTest(ask=ask.__name__, bad=bad):
                        refused(self, BadNumber, ask, letters, bad)

    def test_lists_are_new(self):
        for ask in (rings, simple_rings):
            told = ask("ab", 3)
            ask("ab", 3).clear()
            self.assertEqual(ask("ab", 3), told)

    def test_in_good_time(self):
        begin = time.perf_counter()
        for letters in ("a", "ab", "abc", "abcd"):
            for size in (12, 40):
                how_many_rings(letters, size)
                how_many_simple(letters, size)
        refused(self, Full, rings, "abcd", 12)
        rings("abcd", 7)
        simple_rings("ab", 12)
        self.assertLess(time.perf_counter() - begin, 5)


if __name__ == "__main__":
    unittest.main()
