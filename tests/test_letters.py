"""Letters within: the interface of stage 9, with [2] and [3] as far as letters hang on it."""

import random
import re
import string
import time
import unittest
from fractions import Fraction
from functools import lru_cache

from countworks.counts import counts
from countworks.errors import BadBook, BadMaking, BadNumber, BadWord, NoRule
from countworks.letters import by_letter, letters_in, mean
from tests.helper import (
    A, AB, ABC, B, BUNCHES, BY_HAND, JUNK, MIXED, NAT, NONE, PLAIN, UNIT, crowded_book, name, of_depth, refused,
    small_cases, told_lists, total,
)

NO_LETTERS = JUNK + ["", "ab", "A", "aa", "1", " ", "a ", "\u00e9", "\uff41", ("a",), ["a"], {"a": "a"}, 0, 1]
NO_SIZES = [-1, 25, 40, 41, True, False, None, "1", 1.0, (1,), [1], {}, {1: 1}]


def letters_of(thing):
    """All letters of a thing, or of many, as they are written."""
    return re.findall("'([a-z])'", repr(thing))


def split(things, size, letter):
    told = [0] * (size + 1)
    for thing in things:
        told[letters_of(thing).count(letter)] += 1
    return told


@lru_cache(maxsize=None)
def cases():
    """Books, makings and their things of sizes 0 to 4, which take long to find."""
    return [(book, making, told_lists(book, making, 4)) for book, making in small_cases(random.Random(91), 60)]


def renamed(making, chance, letters):
    """A making with other letters."""
    if making[0] == "atom":
        return ("atom", chance.choice(letters))
    return making[:1] + tuple(renamed(part, chance, letters) if isinstance(part, tuple) else part for part in making[1:])


class ByLetterTest(unittest.TestCase):
    def test_small_sizes(self):
        for book, making, lists in cases():
            for size, things in enumerate(lists):
                for letter in "abcz":
                    with self.subTest(book=book, making=making, size=size, letter=letter):
                        told = by_letter(book, making, size, letter)
                        self.assertIs(type(told), list)
                        self.assertEqual(told, split(things, size, letter))

    def test_by_hand(self):
        self.assertEqual(by_letter(PLAIN, ("row", AB), 4, "a"), [1, 4, 6, 4, 1])
        self.assertEqual(by_letter(PLAIN, ("row", AB), 4, "z"), [16, 0, 0, 0, 0])
        self.assertEqual(by_letter(PLAIN, ("bag", AB), 4, "b"), [1, 1, 1, 1, 1])
        self.assertEqual(by_letter(PLAIN, ("set", AB), 2, "b"), [0, 1, 0])
        self.assertEqual(by_letter(PLAIN, ("set", AB), 3, "b"), [0, 0, 0, 0])
        self.assertEqual(by_letter(PLAIN, UNIT, 0, "a"), [1])
        self.assertEqual(by_letter(PLAIN, A, 0, "a"), [0])
        self.assertEqual(by_letter(PLAIN, A, 1, "a"), [0, 1])
        self.assertEqual(by_letter(PLAIN, A, 1, "b"), [1, 0])
        self.assertEqual(by_letter(PLAIN, NONE, 3, "b"), [0, 0, 0, 0])

    def test_the_sum_is_the_count(self):
        chance = random.Random(92)
        for number, (book, making) in enumerate(small_cases(chance, 25)):
            many = counts(book, making, 24)
            for size in (number % 25, 24) if number % 3 else range(25):
                for letter in "az":
                    told = by_letter(book, making, size, letter)
                    self.assertEqual(len(told), size + 1)
                    self.assertEqual(sum(told), many[size])
                self.assertEqual(told, [many[size]] + [0] * size)

    def test_each_size_up_to_24(self):
        for making in (("row", AB), ("bag", NAT), ("set", ("pair", AB, ("row", A))), ("bag", ("pair", A, ("set", ABC)))):
            many = counts(PLAIN, making, 24)
            for size in range(25):
                self.assertEqual(sum(by_letter(PLAIN, making, size, "a")), many[size])

    def test_all_letters_come_to_the_size(self):
        for making in (("row", ABC), ("bag", MIXED), ("set", ("pair", AB, ("bag", ABC)))):
            for size in (1, 7, 24):
                many = sum(k * told for letter in "abc" for k, told in enumerate(by_letter(PLAIN, making, size, letter)))
                self.assertEqual(many, size * counts(PLAIN, making, size)[size])

    def test_two_letters_are_as_one(self):
        """Of rows, bags and sets of a and b those with so many a are those with so many fewer b."""
        for kind in BUNCHES:
            for inner in (AB, ("pair", AB, AB), ("pair", AB, ("row", AB))):
                for size in (3, 12, 24):
                    left = by_letter(PLAIN, (kind, inner), size, "a")
                    self.assertEqual(left, by_letter(PLAIN, (kind, inner), size, "b")[::-1])

    def test_bags_and_sets_of_letters(self):
        four = total(A, B, ("atom", "c"), ("atom", "d"))
        self.assertEqual(by_letter(PLAIN, ("bag", four), 24, "a"), [(27 - k - 1) * (27 - k - 2) // 2 if k < 24 else 1 for k in range(25)])
        self.assertEqual(by_letter(PLAIN, ("set", four), 2, "a"), [3, 3, 0])

    def test_rules_that_lead_to_themselves(self):
        book = {"t": ("pair", AB, ("bag", name("t")))}
        for size, things in enumerate(told_lists(book, name("t"), 5)):
            self.assertEqual(by_letter(book, name("t"), size, "a"), split(things, size, "a"))
        self.assertEqual(sum(by_letter(book, name("t"), 24, "a")), counts(book, name("t"), 24)[24])

    def test_no_sizes_and_no_letters(self):
        for bad in NO_SIZES:
            for letter in ("a", None, "ab"):
                refused(self, BadNumber, by_letter, PLAIN, ("row", AB), bad, letter)
        for bad in NO_LETTERS:
            with self.subTest(bad=bad):
                refused(self, BadWord, by_letter, PLAIN, ("row", AB), 3, bad)
                refused(self, BadWord, by_letter, PLAIN, NONE, 24, bad)

    def test_lists_are_new(self):
        by_letter(PLAIN, ("row", AB), 2, "a").clear()
        self.assertEqual(by_letter(PLAIN, ("row", AB), 2, "a"), [1, 2, 1])


class MeanTest(unittest.TestCase):
    def test_small_sizes(self):
        for book, making, lists in cases():
            for size, things in enumerate(lists):
                for letter in "abz":
                    if things:
                        told = Fraction(letters_of(things).count(letter), len(things))
                        self.assertEqual(mean(book, making, size, letter), (told.numerator, told.denominator))
                    else:
                        refused(self, BadNumber, mean, book, making, size, letter)

    def test_by_hand(self):
        self.assertEqual(mean(PLAIN, ("row", AB), 3, "a"), (3, 2))
        self.assertEqual(mean(PLAIN, ("row", AB), 24, "b"), (12, 1))
        self.assertEqual(mean(PLAIN, ("row", ABC), 24, "b"), (8, 1))
        self.assertEqual(mean(PLAIN, ("row", AB), 3, "z"), (0, 1))
        self.assertEqual(mean(PLAIN, UNIT, 0, "a"), (0, 1))
        self.assertEqual(mean(PLAIN, A, 1, "a"), (1, 1))
        self.assertEqual(mean(PLAIN, ("sum", A, ("sum", A, B)), 1, "a"), (2, 3))

    def test_great_sizes(self):
        for book in BY_HAND.values():
            for word in book:
                many = counts(book, name(word), 24)[24]
                if many:
                    told = sum(k * things for k, things in enumerate(by_letter(book, name(word), 24, "a")))
                    told = Fraction(told, many)
                    self.assertEqual(mean(book, name(word), 24, "a"), (told.numerator, told.denominator))

    def test_a_size_without_things_is_ahead_of_no_letter(self):
        for letter in ["a"] + NO_LETTERS:
            refused(self, BadNumber, mean, PLAIN, A, 0, letter)
            refused(self, BadNumber, mean, PLAIN, A, 24, letter)
            refused(self, BadNumber, mean, PLAIN, NONE, 3, letter)
            for bad in NO_SIZES:
                refused(self, BadNumber, mean, PLAIN, ("row", A), bad, letter)

    def test_no_letters(self):
        for bad in NO_LETTERS:
            with self.subTest(bad=bad):
                refused(self, BadWord, mean, PLAIN, A, 1, bad)


class LettersInTest(unittest.TestCase):
    def test_by_all_things_up_to_a_size(self):
        for book, making, lists in cases():
            found = set()
            for size, things in enumerate(lists):
                found |= set(letters_of(things))
                self.assertEqual(letters_in(book, making, size), sorted(found), (book, making, size))

    def test_many_letters(self):
        chance = random.Random(95)
        for book, making in list(small_cases(chance, 30))[::2]:
            book = {word: renamed(rule, chance, "zyxkba") for word, rule in book.items()}
            making = renamed(making, chance, "zyxkba")
            found = set()
            for size, things in enumerate(told_lists(book, making, 3)):
                found |= set(letters_of(things))
                self.assertEqual(letters_in(book, making, size), sorted(found), (book, making, size))

    def test_of_no_things(self):
        for making in (NONE, ("pair", A, NONE), ("pair", NONE, B), UNIT, ("row", ("pair", A, NONE))):
            for most in (0, 1, 24):
                self.assertEqual(letters_in(PLAIN, making, most), [])
        self.assertEqual(letters_in(BY_HAND["no things"], name("q"), 24), [])

    def test_letters_that_come_late(self):
        late = ("pair", A, ("pair", A, B))
        making = ("sum", ("row", ("pair", ("atom", "c"), NONE)), late)
        self.assertEqual(letters_in(PLAIN, making, 2), [])
        self.assertEqual(letters_in(PLAIN, making, 3), ["a", "b"])
        once = ("set", ("sum", A, ("pair", B, B)))
        self.assertEqual([letters_in(PLAIN, once, size) for size in range(4)], [[], ["a"], ["a", "b"], ["a", "b"]])

    def test_letters_beside_none_do_not_count(self):
        self.assertEqual(letters_in(PLAIN, ("sum", A, ("pair", B, NONE)), 24), ["a"])
        self.assertEqual(letters_in({"w": ("pair", B, name("w")), "v": B}, ("sum", A, name("w")), 24), ["a"])

    def test_no_sizes(self):
        for bad in NO_SIZES:
            with self.subTest(bad=bad):
                refused(self, BadNumber, letters_in, PLAIN, A, bad)

    def test_lists_are_new(self):
        letters_in(PLAIN, AB, 2).clear()
        self.assertEqual(letters_in(PLAIN, AB, 2), ["a", "b"])


class GreatestTest(unittest.TestCase):
    def test_full_books(self):
        chance = random.Random(96)
        begin = time.perf_counter()
        for _ in range(3):
            book = {word: renamed(rule, chance, string.ascii_lowercase) for word, rule in crowded_book(chance).items()}
            for word in list(book)[:2]:
                many = counts(book, name(word), 24)[24]
                for letter in "amz":
                    told = by_letter(book, name(word), 24, letter)
                    self.assertEqual(sum(told), many)
                    self.assertEqual(letter in letters_in(book, name(word), 24), any(
                        by_letter(book, name(word), size, letter)[1:] != [0] * size for size in range(25)
                    ))
                if many:
                    mean(book, name(word), 24, "a")
        self.assertLess(time.perf_counter() - begin, 30)


class RefusalsTest(unittest.TestCase):
    def test_books_and_makings_are_ahead(self):
        for ask, hand in ((by_letter, (True, None)), (mean, (-1, None)), (letters_in, (25,))):
            for bad in JUNK:
                self.assertIsNone(refused(self, BadBook, ask, bad, None, *hand).wrong)
                refused(self, BadMaking, ask, PLAIN, bad, *hand)
            self.assertEqual(refused(self, BadBook, ask, {"w": ("row", UNIT)}, None, *hand).wrong, ["w"])
            refused(self, BadMaking, ask, PLAIN, ("row", UNIT), *hand)
            refused(self, BadMaking, ask, PLAIN, of_depth(7), *hand)
            self.assertEqual(refused(self, NoRule, ask, PLAIN, ("sum", name("z"), name("y")), *hand).lacks, "y")


if __name__ == "__main__":
    unittest.main()
