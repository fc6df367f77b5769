"""Books: [11], [12] and the interface of stage 1."""

import copy
import random
import unittest

from countworks.books import bare_names, is_book, may_be_bare, need_fair, unfair
from countworks.errors import BadBook, BadMaking, NoRule
from tests import helper
from tests.helper import A, B, BUNCHES, JUNK, NONE, UNIT, name, of_depth, of_parts, total

NATS = {"n": ("pair", A, ("row", A))}
TREES = {"t": ("sum", A, ("pair", name("t"), name("t")))}
# The rules may be bare: e by itself, f and g through it, h not, and i only if it were already.
BARE = {
    "e": ("sum", A, UNIT), "f": ("pair", name("e"), name("e")), "g": ("sum", name("h"), name("f")),
    "h": ("pair", A, name("e")), "i": ("pair", name("i"), name("i")),
}

BAD_BOOKS = JUNK + [
    {}, {"": UNIT}, {"a" * 9: UNIT}, {"A": UNIT}, {"a1": UNIT}, {"a b": UNIT}, {1: UNIT}, {True: UNIT}, {("a",): UNIT},
    {"a": None}, {"a": "unit"}, {"a": ["unit"]}, {"a": ("unit", "unit")}, {"a": of_parts(41)}, {"a": of_depth(7)},
    {"a": name("b")}, {"a": UNIT, "b": ("row", name("c"))}, {"a": UNIT, "b": ("sum", A, ("pair", name("a"), name("z")))},
    {"a": UNIT, "B": UNIT}, {"a": UNIT, 2: UNIT}, {"a": UNIT, "b": 2}, [("a", UNIT)], (("a", UNIT),), ("a", UNIT),
    UNIT, "a", [UNIT], {"a"}, {word: UNIT for word in "abcdefghi"}, {"a": {"a": UNIT}},
]


def words(many):
    return list("abcdefghijkl")[:many]


class IsBookTest(unittest.TestCase):
    def test_1_to_8_words(self):
        for many in range(1, 9):
            self.assertIs(is_book({word: UNIT for word in words(many)}), True)
        for many in (0, 9, 12):
            self.assertIs(is_book({word: UNIT for word in words(many)}), False)

    def test_words_of_1_and_8_letters(self):
        self.assertIs(is_book({"a": A, "abcdefgh": A}), True)
        self.assertIs(is_book({"a": A, "abcdefghi": A}), False)

    def test_each_named_word_has_a_rule(self):
        self.assertIs(is_book({"a": name("b"), "b": name("a")}), True)
        self.assertIs(is_book({"a": name("a")}), True)
        self.assertIs(is_book({"a": name("b")}), False)
        self.assertIs(is_book({"a": UNIT, "b": ("row", ("pair", A, ("bag", ("sum", name("a"), name("c")))))}), False)

    def test_unfair_ones_are_books(self):
        for book in ({"a": ("row", UNIT)}, {"a": ("sum", name("a"), A)}, NATS, TREES, BARE):
            self.assertIs(is_book(book), True)

    def test_great_rules(self):
        self.assertIs(is_book({word: of_parts(40) for word in words(8)}), True)
        self.assertIs(is_book({word: of_depth(6) for word in words(8)}), True)
        self.assertIs(is_book({**{word: UNIT for word in words(7)}, "z": of_parts(41)}), False)

    def test_wrong_things(self):
        for bad in BAD_BOOKS:
            with self.subTest(bad=bad):
                self.assertIs(is_book(bad), False)


class MayBeBareTest(unittest.TestCase):
    def told(self, making, told, book=BARE):
        with self.subTest(making=making):
            self.assertIs(may_be_bare(book, making), told)

    def test_plain_kinds(self):
        self.told(NONE, False)
        self.told(UNIT, True)
        self.told(A, False)

    def test_sums(self):
        self.told(("sum", UNIT, A), True)
        self.told(("sum", A, UNIT), True)
        self.told(("sum", UNIT, UNIT), True)
        self.told(("sum", NONE, A), False)

    def test_pairs(self):
        self.told(("pair", UNIT, UNIT), True)
        self.told(("pair", UNIT, A), False)
        self.told(("pair", A, UNIT), False)
        self.told(("pair", NONE, UNIT), False)

    def test_rows_bags_sets(self):
        for kind in BUNCHES:
            for part in (A, NONE, UNIT, ("row", A), name("h"), name("i")):
                self.told((kind, part), True)
            self.told(("pair", (kind, A), A), False)

    def test_names(self):
        for word, told in (("e", True), ("f", True), ("g", True), ("h", False), ("i", False)):
            self.told(name(word), told)

    def test_only_what_follows(self):
        book = {"a": name("a"), "b": ("sum", name("c"), A), "c": name("b"), "d": ("pair", name("d"), UNIT)}
        for word in book:
            self.told(name(word), False, book)

    def test_long_way(self):
        book = {word: name(behind) for word, behind in zip("abcdefg", "bcdefgh")}
        for word in "abcdefgh":
            self.told(name(word), True, {**book, "h": UNIT})
            self.told(name(word), False, {**book, "h": A})
            self.told(name(word), True, {"h": UNIT, **book})

    def test_by_chance(self):
        chance = random.Random(1)
        seen = {True: 0, False: 0}
        for _ in range(600):
            book = helper.some_book(chance, chance.randint(1, 4), 3)
            making = helper.some_making(chance, list(book), 3)
            told = helper.may_be_bare(book, making)
            seen[told] += 1
            self.told(making, told, book)
        self.assertGreater(min(seen.values()), 100)


class BareNamesTest(unittest.TestCase):
    def told(self, making, told, book=BARE):
        with self.subTest(making=making):
            self.assertEqual(bare_names(book, making), told)

    def test_plain_kinds(self):
        for making in (NONE, UNIT, A):
            self.told(making, [])

    def test_the_name_itself(self):
        for word in BARE:
            self.told(name(word), [word])

    def test_sums(self):
        self.told(("sum", name("h"), name("e")), ["e", "h"])
        self.told(("sum", name("h"), name("h")), ["h"])
        self.told(("sum", A, name("i")), ["i"])

    def test_pairs(self):
        self.told(("pair", name("h"), A), [])
        self.told(("pair", A, name("h")), [])
        self.told(("pair", name("h"), UNIT), ["h"])
        self.told(("pair", UNIT, name("h")), ["h"])
        self.told(("pair", name("h"), name("e")), ["h"])
        self.told(("pair", name("e"), name("h")), ["h"])
        self.told(("pair", name("f"), name("e")), ["e", "f"])
        self.told(("pair", name("h"), name("i")), [])
        self.told(("pair", ("row", name("h")), ("sum", name("i"), UNIT)), ["h", "i"])
        self.told(("pair", NONE, name("h")), [])

    def test_rows_bags_sets(self):
        for kind in BUNCHES:
            self.told((kind, name("h")), ["h"])
            self.told((kind, ("pair", A, name("h"))), [])
            self.told((kind, ("sum", name("i"), ("pair", name("h"), name("e")))), ["h", "i"])
            self.told(("pair", (kind, name("i")), name("h")), ["h"])

    def test_names_are_not_followed(self):
        self.told(name("g"), ["g"])

    def test_lists_are_new(self):
        told = bare_names(BARE, name("e"))
        self.assertIsInstance(told, list)
        told.append("z")
        self.told(name("e"), ["e"])

    def test_by_chance(self):
        chance = random.Random(2)
        many = 0
        for _ in range(600):
            book = helper.some_book(chance, chance.randint(1, 4), 3)
            making = helper.some_making(chance, list(book), 4)
            told = [word for word in sorted(book) if helper.stands_bare(book, word, making)]
            many += len(told)
            self.told(making, told, book)
        self.assertGreater(many, 100)


class UnfairTest(unittest.TestCase):
    def told(self, book, told):
        with self.subTest(book=book):
            self.assertEqual(unfair(book), told)
            if told:
                with self.assertRaises(BadBook) as caught:
                    need_fair(book)
                self.assertEqual(caught.exception.wrong, told)
                self.assertIsInstance(caught.exception.wrong, list)
            else:
                self.assertIsNone(need_fair(book))

    def test_fair_ones(self):
        for book in (NATS, TREES, BARE, {"a": UNIT}, {"a": NONE}, {"w": ("pair", A, name("w"))},
                     {"w": ("pair", name("w"), name("w"))}, {"w": ("pair", NONE, name("w"))},
                     {"w": ("pair", A, ("bag", name("w")))}, {"a": ("row", NONE)}):
            self.told(book, [])

    def test_rows_bags_sets_of_what_may_be_bare(self):
        for kind in BUNCHES:
            for part in (UNIT, ("sum", A, UNIT), ("pair", UNIT, UNIT), ("row", A), ("bag", A), ("set", A), name("z"),
                         ("sum", A, name("z"))):
                self.told({"a": (kind, part), "z": UNIT}, ["a"])
                self.told({"a": ("sum", A, ("pair", B, ("row", ("pair", A, (kind, part))))), "z": UNIT}, ["a"])
            self.told({"a": (kind, ("pair", A, UNIT))}, [])

    def test_only_the_word_in_whose_rule_it_stands(self):
        self.told({"a": name("b"), "b": ("row", UNIT), "c": ("pair", A, name("b"))}, ["b"])

    def test_rings_of_one(self):
        for rule in (name("w"), ("sum", name("w"), A), ("sum", UNIT, name("w")), ("pair", name("w"), UNIT),
                     ("pair", ("sum", A, UNIT), name("w")), ("row", name("w")), ("bag", name("w")), ("set", name("w")),
                     ("sum", A, ("pair", ("row", A), ("sum", NONE, name("w"))))):
            self.told({"w": rule, "a": A}, ["w"])

    def test_rings_of_two(self):
        self.told({"b": name("a"), "a": name("b"), "c": name("a")}, ["a", "b"])
        self.told({"b": ("pair", UNIT, name("a")), "a": ("sum", A, name("b"))}, ["a", "b"])
        self.told({"b": ("pair", A, name("a")), "a": ("sum", A, name("b"))}, [])

    def test_rings_of_three(self):
        ring = {"x": name("z"), "y": ("row", name("x")), "z": ("pair", ("row", A), name("y"))}
        self.told(ring, ["x", "y", "z"])
        self.told({**ring, "a": name("x"), "b": A}, ["x", "y", "z"])
        self.told({**ring, "z": ("pair", A, name("y"))}, [])

    def test_two_rings(self):
        self.told({"a": ("sum", name("b"), name("c")), "b": name("a"), "c": name("a")}, ["a", "b", "c"])
        self.told({"a": name("a"), "b": ("sum", name("a"), name("c")), "c": name("c")}, ["a", "c"])

    def test_rings_of_eight(self):
        ring = {word: ("sum", A, name(behind)) for word, behind in zip("abcdefgh", "bcdefgha")}
        self.told(ring, list("abcdefgh"))
        self.told({**ring, "d": ("pair", A, name("e"))}, [])

    def test_lists_are_new(self):
        book = {"a": name("a")}
        told = unfair(book)
        told.append("z")
        self.told(book, ["a"])
        with self.assertRaises(BadBook) as caught:
            need_fair(book)
        caught.exception.wrong.append("z")
        self.told(book, ["a"])

    def test_by_chance(self):
        chance = random.Random(3)
        seen = [0] * 5
        for _ in range(1200):
            book = helper.some_book(chance, chance.randint(1, 4), 3)
            told = helper.unfair(book)
            seen[len(told)] += 1
            self.told(book, told)
        self.assertGreater(min(seen[:4]), 20)


class RefusalsTest(unittest.TestCase):
    def test_no_book(self):
        for bad in BAD_BOOKS:
            for ask in (lambda: may_be_bare(bad, A), lambda: bare_names(bad, A), lambda: unfair(bad),
                        lambda: need_fair(bad)):
                with self.subTest(bad=bad):
                    with self.assertRaises(BadBook) as caught:
                        ask()
                    self.assertIsNone(caught.exception.wrong)

    def test_no_making(self):
        for bad in JUNK + [of_parts(41), of_depth(7), ("row", None), ("sum", A), name("W")]:
            for ask in (may_be_bare, bare_names):
                with self.subTest(bad=bad):
                    with self.assertRaises(BadMaking):
                        ask(BARE, bad)

    def test_no_rule(self):
        for making, lacks in ((name("z"), "z"), (("sum", name("z"), name("ab")), "ab"), (("row", name("d")), "d"),
                              (("pair", name("e"), ("bag", ("sum", name("y"), name("x")))), "x"),
                              (total(name("i"), name("k"), name("j")), "j")):
            for ask in (may_be_bare, bare_names):
                with self.subTest(making=making):
                    with self.assertRaises(NoRule) as caught:
                        ask(BARE, making)
                    self.assertEqual(caught.exception.lacks, lacks)

    def test_unfair_books_and_their_makings_are_asked(self):
        book = {"a": ("row", UNIT), "b": name("b")}
        self.assertIs(may_be_bare(book, name("a")), True)
        self.assertIs(may_be_bare(book, ("row", UNIT)), True)
        self.assertIs(may_be_bare(book, name("b")), False)
        self.assertEqual(bare_names(book, ("row", name("a"))), ["a"])

    def test_the_book_is_refused_first(self):
        for ask in (may_be_bare, bare_names):
            for making in (None, ("row",), name("zz")):
                with self.assertRaises(BadBook) as caught:
                    ask({"a": name("b")}, making)
                self.assertIsNone(caught.exception.wrong)

    def test_no_making_is_refused_ahead_of_words_that_lack(self):
        for ask in (may_be_bare, bare_names):
            for making in (("sum", name("z"), None), ("sum", name("z"), of_parts(40))):
                with self.assertRaises(BadMaking):
                    ask(BARE, making)

    def test_what_is_handed_in_stays(self):
        for book in (BARE, {"b": name("a"), "a": ("row", name("b"))}):
            before = copy.deepcopy(book)
            may_be_bare(book, name("b") if "b" in book else name("e"))
            bare_names(book, ("sum", A, name(list(book)[0])))
            unfair(book)
            is_book(book)
            with self.assertRaises(NoRule):
                may_be_bare(book, name("zz"))
            self.assertEqual(list(book.items()), list(before.items()))


if __name__ == "__main__":
    unittest.main()
