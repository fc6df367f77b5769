"""Counts: the interface of stage 2, with [3], [11] and [12] as far as counts hang on them."""

import copy
import random
import unittest
from math import comb

from countworks.counts import count, counts, first_size
from countworks.errors import BadBook, BadMaking, BadNumber, NoRule
from tests import helper
from tests.helper import (
    A, AB, ABC, B, BUNCHES, BY_HAND, JUNK, NAT, NONE, PLAIN, UNIT, crowded, crowded_book, name, of_depth, of_parts,
    refused, total,
)


class SmallSizesTest(unittest.TestCase):
    def told(self, book, making, most):
        with self.subTest(book=book, making=making):
            listed = helper.listed_counts(book, making, most)
            self.assertEqual(counts(book, making, most), listed)
            self.assertEqual([count(book, making, size) for size in range(most + 1)], listed)
            first = next((size for size, many in enumerate(listed) if many), None)
            self.assertEqual(first_size(book, making, most), first)

    def test_every_kind(self):
        for making in helper.EVERY_KIND + helper.EVERY_BUNCH:
            self.told(PLAIN, making, 4)

    def test_rows_bags_sets(self):
        for kind in BUNCHES:
            self.told(PLAIN, (kind, A), 6)
            self.told(PLAIN, (kind, NAT), 6)

    def test_each_within_each(self):
        for outer in BUNCHES:
            for within in BUNCHES:
                self.told(PLAIN, (outer, ("pair", A, (within, A))), 6)
                self.told(PLAIN, (outer, ("pair", A, (within, ("pair", A, (outer, AB))))), 4)

    def test_rules_that_lead_to_themselves(self):
        for title, book in BY_HAND.items():
            with self.subTest(title=title):
                for word in book:
                    self.told(book, name(word), 5)
                    self.told(book, ("pair", AB, name(word)), 4)
                    if not helper.may_be_bare(book, name(word)):
                        for kind in BUNCHES:
                            self.told(book, (kind, name(word)), 4)

    def test_the_told_order_of_rules_does_not_matter(self):
        for book in BY_HAND.values():
            turned = dict(reversed(list(book.items())))
            for word in book:
                self.assertEqual(counts(turned, name(word), 12), counts(book, name(word), 12))

    def test_by_chance(self):
        chance = random.Random(4)
        seen = dict.fromkeys(BUNCHES, 0)
        for _ in range(400):
            book = helper.some_fair_book(chance, chance.randint(1, 3), 3)
            making = helper.some_making_of(chance, book, 3)
            try:
                helper.listed_counts(book, making, 4)
            except helper.TooMany:
                continue
            self.told(book, making, 4)
            for rule in list(book.values()) + [making]:
                for part in helper.parts(rule):
                    if part[0] in BUNCHES:
                        seen[part[0]] += 1
        self.assertGreater(min(seen.values()), 40)


def catalan(n):
    return comb(2 * n, n) // (n + 1)


class KnownNumbersTest(unittest.TestCase):
    def test_texts(self):
        self.assertEqual(counts(PLAIN, ("row", A), 40), [1] * 41)
        self.assertEqual(counts(PLAIN, ("row", AB), 40), [2 ** n for n in range(41)])
        self.assertEqual(counts(PLAIN, ("row", ABC), 40), [3 ** n for n in range(41)])
        book = {"l": total(*[("atom", letter) for letter in "abcdef"])}
        self.assertEqual(counts(book, ("row", ("sum", name("l"), name("l"))), 40), [12 ** n for n in range(41)])

    def test_rows_of_ones_and_twos(self):
        steps = [1, 1]
        while len(steps) < 41:
            steps.append(steps[-1] + steps[-2])
        self.assertEqual(counts(PLAIN, ("row", ("sum", A, ("pair", A, A))), 40), steps)

    def test_rows_of_numbers(self):
        self.assertEqual(counts(PLAIN, ("row", NAT), 40), [1] + [2 ** n for n in range(40)])

    def test_trees(self):
        self.assertEqual(counts(BY_HAND["trees"], name("t"), 40), [0] + [catalan(n) for n in range(40)])
        self.assertEqual(counts(BY_HAND["bare trees"], name("t"), 40), [catalan(n) for n in range(41)])
        self.assertEqual(counts(BY_HAND["trees of rows"], name("t"), 40), [0] + [catalan(n) for n in range(40)])

    def test_trees_with_one_or_two_branches(self):
        two = ("pair", ("pair", A, A), ("pair", name("m"), name("m")))
        book = {"m": total(UNIT, ("pair", A, name("m")), two)}
        told = counts(book, name("m"), 40)
        self.assertEqual(told[:12], [1, 1, 2, 4, 9, 21, 51, 127, 323, 835, 2188, 5798])
        self.assertEqual(told, [sum(comb(n, 2 * k) * catalan(k) for k in range(n // 2 + 1)) for n in range(41)])

    def test_trees_without_order(self):
        told = [0, 1, 1, 2, 4, 9, 20, 48, 115, 286, 719, 1842, 4766, 12486, 32973, 87811, 235381, 634847, 1721159,
                4688676, 12826228, 35221832, 97055181, 268282855, 743724984, 2067174645, 5759636510, 16083734329,
                45007066269, 126186554308, 354426847597]
        self.assertEqual(counts(BY_HAND["trees of bags"], name("t"), 30), told)

    def test_trees_without_likeness(self):
        told = [0, 1, 1, 1, 2, 3, 6, 12, 25, 52, 113, 247, 548, 1226, 2770, 6299, 14426, 33209, 76851, 178618, 416848,
                976296, 2294224, 5407384, 12780394, 30283120, 71924647, 171196956, 408310668, 975662480, 2335443077]
        self.assertEqual(counts({"t": ("pair", A, ("set", name("t")))}, name("t"), 30), told)

    def test_parts_of_numbers(self):
        all_parts, unlike = [1] + [0] * 40, [1] + [0] * 40
        for part in range(1, 41):
            for n in range(part, 41):
                all_parts[n] += all_parts[n - part]
            for n in range(40, part - 1, -1):
                unlike[n] += unlike[n - part]
        self.assertEqual((all_parts[40], unlike[40]), (37338, 1113))
        self.assertEqual(counts(PLAIN, ("bag", NAT), 40), all_parts)
        self.assertEqual(counts(PLAIN, ("set", NAT), 40), unlike)

    def test_odd_parts_are_as_many_as_unlike_ones(self):
        odd = ("pair", A, ("row", ("pair", A, A)))
        self.assertEqual(counts(PLAIN, ("bag", odd), 40), counts(PLAIN, ("set", NAT), 40))

    def test_bags_and_sets_of_letters(self):
        letters = total(*[("atom", letter) for letter in "abcdef"])
        self.assertEqual(counts({"l": letters}, ("bag", name("l")), 40), [comb(n + 5, 5) for n in range(41)])
        self.assertEqual(counts({"l": letters}, ("set", name("l")), 40), [comb(6, n) for n in range(41)])

    def test_without_things(self):
        self.assertEqual(counts(PLAIN, NONE, 40), [0] * 41)
        self.assertEqual(counts(BY_HAND["no things"], name("p"), 40), [0] * 41)
        self.assertEqual(counts(BY_HAND["no things"], name("r"), 40), [1] + [0] * 40)


class GreatSizesTest(unittest.TestCase):
    def test_second_road(self):
        chance = random.Random(5)
        for _ in range(60):
            book = helper.some_fair_book(chance, chance.randint(1, 4), 4)
            making = helper.some_making_of(chance, book, 4)
            with self.subTest(book=book, making=making):
                self.assertEqual(counts(book, making, 14), helper.series_counts(book, making, 14))

    def test_second_road_by_hand(self):
        for book in BY_HAND.values():
            for word in book:
                self.assertEqual(counts(book, name(word), 40), helper.series_counts(book, name(word), 40))

    def test_full_books(self):
        chance = random.Random(6)
        for _ in range(3):
            book = crowded_book(chance)
            self.assertEqual([len(helper.parts(rule)) for rule in book.values()], [40] * 8)
            making = ("pair", B, crowded(chance, list(book), 38, 5))
            told = counts(book, making, 40)
            self.assertEqual(len(told), 41)
            self.assertEqual(told[:13], helper.series_counts(book, making, 12))
            self.assertEqual(count(book, making, 40), told[40])
            self.assertGreater(told[40], 10 ** 20)
            self.assertEqual(first_size(book, making, 40), next(size for size in range(41) if told[size]))

    def test_a_long_way_of_bare_rules(self):
        deep = name("h")
        for _ in range(6):
            deep = ("sum", NONE, deep)
        book = {"h": ("sum", UNIT, ("pair", A, name("a")))}
        for word, behind in zip("gfedcba", "hgfedcb"):
            book[word] = total(NONE, NONE, NONE, NONE, NONE, NONE, name(behind))
        self.assertEqual(counts(book, deep, 40), [1] * 41)


class FirstSizeTest(unittest.TestCase):
    def test_sizes(self):
        for making, told in ((UNIT, 0), (A, 1), (("row", A), 0), (("pair", A, ("pair", B, A)), 3),
                             (("sum", ("pair", A, A), A), 1)):
            self.assertEqual(first_size(PLAIN, making, 40), told)

    def test_up_to_so_many(self):
        making = ("pair", A, ("pair", B, A))
        self.assertIsNone(first_size(PLAIN, making, 0))
        self.assertIsNone(first_size(PLAIN, making, 2))
        self.assertEqual(first_size(PLAIN, making, 3), 3)
        self.assertEqual(first_size(PLAIN, making, 4), 3)

    def test_size_40(self):
        book = {"a": ("pair", ("pair", A, A), ("pair", A, A)), "b": ("pair", name("a"), name("a")),
                "c": ("pair", name("b"), name("b"))}
        making = ("pair", name("c"), ("pair", name("c"), name("b")))
        self.assertIsNone(first_size(book, making, 39))
        self.assertEqual(first_size(book, making, 40), 40)
        self.assertIsNone(first_size(book, ("pair", A, making), 40))

    def test_none(self):
        self.assertIsNone(first_size(PLAIN, NONE, 40))
        self.assertIsNone(first_size(BY_HAND["no things"], name("p"), 40))


class RefusalsTest(unittest.TestCase):
    asks = (count, counts, first_size)

    def test_sizes_0_and_40(self):
        self.assertEqual(counts(PLAIN, A, 0), [0])
        self.assertEqual(counts(PLAIN, UNIT, 0), [1])
        self.assertEqual(len(counts(PLAIN, A, 40)), 41)
        self.assertEqual(count(PLAIN, UNIT, 0), 1)
        self.assertEqual(count(PLAIN, ("row", A), 40), 1)

    def test_no_sizes(self):
        for bad in JUNK + [True, False, -1, 41, 100, "1", "0", 2.0, (1,), [1], {1: 1}, 10 ** 30, -10 ** 30]:
            for ask in self.asks:
                with self.subTest(bad=bad):
                    refused(self, BadNumber, ask, PLAIN, A, bad)

    def test_no_books(self):
        for bad in JUNK + [{}, {"a": name("b")}, {word: A for word in "abcdefghi"}, {"a": of_parts(41)}]:
            for ask in self.asks:
                with self.subTest(bad=bad):
                    self.assertIsNone(refused(self, BadBook, ask, bad, A, 1).wrong)

    def test_unfair_books(self):
        for book, wrong in (({"a": ("row", UNIT)}, ["a"]), ({"c": name("b"), "b": name("c"), "a": A}, ["b", "c"]),
                            ({"z": ("set", ("bag", A)), "a": ("sum", UNIT, name("a")), "k": A}, ["a", "z"])):
            for ask in self.asks:
                with self.subTest(book=book):
                    self.assertEqual(refused(self, BadBook, ask, book, A, 1).wrong, wrong)

    def test_no_makings(self):
        for bad in JUNK + [of_parts(41), of_depth(7), ("row",), ("pair", A, None)]:
            for ask in self.asks:
                with self.subTest(bad=bad):
                    refused(self, BadMaking, ask, PLAIN, bad, 1)

    def test_makings_of_what_may_be_bare(self):
        for kind in BUNCHES:
            for part in (UNIT, name("u"), ("row", A), ("sum", A, UNIT), ("pair", name("u"), ("set", A))):
                for making in ((kind, part), ("pair", A, (kind, part)), ("row", ("pair", A, ("sum", B, (kind, part))))):
                    for ask in self.asks:
                        with self.subTest(making=making):
                            refused(self, BadMaking, ask, PLAIN, making, 1)

    def test_words_that_lack(self):
        for making, lacks in ((name("z"), "z"), (("row", name("z")), "z"), (("sum", name("y"), name("x")), "x"),
                              (("pair", name("u"), ("sum", name("b"), name("aa"))), "aa")):
            for ask in self.asks:
                with self.subTest(making=making):
                    self.assertEqual(refused(self, NoRule, ask, PLAIN, making, 1).lacks, lacks)

    def test_order(self):
        no_book, unfair = {"a": name("b")}, {"a": name("a")}
        no_makings = (None, ("row", UNIT), name("zz"), A)
        for ask in self.asks:
            for size in (-1, 41, True, None, 1):
                for making in no_makings:
                    self.assertIsNone(refused(self, BadBook, ask, no_book, making, size).wrong)
                    self.assertEqual(refused(self, BadBook, ask, unfair, making, size).wrong, ["a"])
                refused(self, BadMaking, ask, PLAIN, None, size)
                refused(self, BadMaking, ask, PLAIN, ("row", UNIT), size)
                refused(self, NoRule, ask, PLAIN, name("zz"), size)

    def test_no_making_ahead_of_words_that_lack(self):
        for making in (("sum", name("zz"), None), ("sum", name("zz"), ("row", UNIT)),
                       ("row", ("sum", name("zz"), UNIT)), ("pair", ("bag", ("row", name("zz"))), A)):
            for ask in self.asks:
                with self.subTest(making=making):
                    refused(self, BadMaking, ask, PLAIN, making, 1)

    def test_what_is_refused_changes_nothing(self):
        book = dict(BY_HAND["three words"])
        before = copy.deepcopy(book)
        told = counts(book, name("p"), 10)
        for making, size in ((None, 1), (name("z"), 1), (("row", UNIT), 1), (name("p"), 41)):
            for ask in self.asks:
                with self.assertRaises(ValueError):
                    ask(book, making, size)
        self.assertEqual(list(book.items()), list(before.items()))
        self.assertEqual(counts(book, name("p"), 10), told)


class NothingIsKeptTest(unittest.TestCase):
    def test_what_is_handed_in_stays(self):
        for book in BY_HAND.values():
            before = copy.deepcopy(book)
            for word in book:
                counts(book, name(word), 10)
                count(book, name(word), 10)
                first_size(book, name(word), 10)
            self.assertEqual(list(book.items()), list(before.items()))

    def test_lists_are_new(self):
        for making in (A, name("t"), ("row", name("t"))):
            book = BY_HAND["trees"]
            told = counts(book, making, 8)
            same = list(told)
            told[1] = 99
            told.append(7)
            self.assertEqual(counts(book, making, 8), same)
            self.assertEqual(count(book, making, 1), same[1])

    def test_a_changed_book_is_counted_anew(self):
        book = {"w": A}
        self.assertEqual(counts(book, name("w"), 2), [0, 1, 0])
        book["w"] = ("pair", A, A)
        self.assertEqual(counts(book, name("w"), 2), [0, 0, 1])
        book["w"] = name("w")
        self.assertEqual(refused(self, BadBook, counts, book, name("w"), 2).wrong, ["w"])


if __name__ == "__main__":
    unittest.main()
