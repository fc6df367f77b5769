"""Makings: [11] and the interface of stage 1."""

import unittest

from countworks.errors import BadMaking
from countworks.makings import is_making, names_in, parts_in
from tests.helper import A, JUNK, NONE, UNIT, name, of_depth, of_parts

KINDS = [
    NONE, UNIT, A, ("atom", "z"), ("sum", NONE, UNIT), ("pair", A, ("atom", "m")), ("row", A), ("bag", A), ("set", A),
    name("a"), name("z"), name("abcdefgh"), name("none"), name("row"), ("row", UNIT), ("row", ("row", NONE)),
]

WRONG_TEXTS = ["", "A", "Z", "1", "0", "_", "'", "`", "{", " ", "\n", "-", "\u00e9", "\u00df", "\u0430", "\uff41"]

BAD_FORMS = [
    (), ("none", NONE), ("none", ()), ("unit", UNIT), ("unit", None), ("atom",), ("atom", "a", "a"), ("name",),
    ("name", "a", "b"), ("sum",), ("sum", A), ("sum", A, A, A), ("pair",), ("pair", A), ("pair", A, A, A), ("row",),
    ("row", A, A), ("bag",), ("bag", A, A), ("set",), ("set", A, A), ("None",), ("Unit",), ("tree", A), ("",),
    ("row", "a"), ("sum", "a", "b"), ("pair", A, "a"), ["none"], ["atom", "a"], ["row", A], ("row", ["unit"]),
    ("sum", [A, A]), "a", None, True, 0, 1, {"none": ()}, {"a": A}, (("none",),), (A,), (A, A),
]


def wrongs():
    """Things of any kind that are no makings, and makings with such inside them."""
    for bad in JUNK + BAD_FORMS:
        yield bad
        yield from [("sum", bad, A), ("sum", A, bad), ("pair", bad, A), ("pair", A, bad)]
        yield from [("row", bad), ("bag", bad), ("set", bad), ("bag", ("pair", A, ("sum", bad, A)))]
        yield from [(bad,), (bad, A), (bad, A, A), [bad], {"a": bad}, ("none", bad), ("unit", bad)]
    for bad in JUNK + [A, ["a"], ("a",), ("a", "b"), 1, b"a"] + WRONG_TEXTS:
        yield ("atom", bad)
        yield ("name", bad)
        yield ("row", ("atom", bad))
        yield ("pair", ("name", bad), UNIT)
    for bad in WRONG_TEXTS[1:]:
        yield from [("name", "a" + bad + "b"), ("name", bad + "a"), ("name", "a" + bad), ("atom", "a" + bad)]
    yield from ["none", "unit", "row", "name"]


def endless():
    """A making-like tuple that is nested as deep as nothing should follow."""
    making = A
    for _ in range(100000):
        making = ("row", making)
    return making


class IsMakingTest(unittest.TestCase):
    def test_every_kind(self):
        for making in KINDS:
            with self.subTest(making=making):
                self.assertIs(is_making(making), True)

    def test_every_kind_within_every_kind(self):
        for part in KINDS:
            for making in (("sum", part, A), ("sum", A, part), ("pair", part, A), ("pair", A, part), ("row", part),
                           ("bag", part), ("set", part)):
                with self.subTest(making=making):
                    self.assertIs(is_making(making), True)

    def test_every_letter(self):
        for letter in "abcdefghijklmnopqrstuvwxyz":
            self.assertIs(is_making(("atom", letter)), True)
            self.assertIs(is_making(("name", letter)), True)

    def test_letters_are_one(self):
        for text in ("ab", "aa", "abcdefgh", ""):
            self.assertIs(is_making(("atom", text)), False)

    def test_words_have_1_to_8_letters(self):
        for many, told in ((0, False), (1, True), (2, True), (7, True), (8, True), (9, False), (20, False)):
            with self.subTest(many=many):
                self.assertIs(is_making(name("w" * many)), told)

    def test_words_have_small_letters_only(self):
        for word in ("A", "aB", "Ab", "a1", "1", "a_b", "a b", " a", "a ", "a\n", "a-b", "\u00e9", "a\u00e9"):
            with self.subTest(word=word):
                self.assertIs(is_making(name(word)), False)

    def test_40_parts_and_41(self):
        self.assertIs(is_making(of_parts(39)), True)
        self.assertIs(is_making(of_parts(40)), True)
        self.assertIs(is_making(of_parts(41)), False)
        self.assertIs(is_making(of_parts(60)), False)

    def test_parts_of_all_sides_count(self):
        self.assertIs(is_making(("sum", of_parts(20), of_parts(19))), True)
        self.assertIs(is_making(("pair", of_parts(20), of_parts(20))), False)
        self.assertIs(is_making(("bag", of_parts(39))), True)
        self.assertIs(is_making(("bag", of_parts(40))), False)

    def test_nested_6_deep_and_7(self):
        for kind in ("row", "bag", "set"):
            self.assertIs(is_making(of_depth(5, kind)), True)
            self.assertIs(is_making(of_depth(6, kind)), True)
            self.assertIs(is_making(of_depth(7, kind)), False)
        for kind in ("sum", "pair"):
            self.assertIs(is_making((kind, A, of_depth(5))), True)
            self.assertIs(is_making((kind, of_depth(5), A)), True)
            self.assertIs(is_making((kind, A, of_depth(6))), False)
            self.assertIs(is_making((kind, of_depth(6), A)), False)

    def test_nested_without_end(self):
        making = endless()
        self.assertIs(is_making(making), False)
        with self.assertRaises(BadMaking):
            names_in(making)

    def test_wrong_things(self):
        for bad in wrongs():
            with self.subTest(bad=bad):
                self.assertIs(is_making(bad), False)


class NamesInTest(unittest.TestCase):
    def test_none(self):
        for making in (NONE, UNIT, A, ("sum", A, UNIT), ("row", A), ("bag", ("set", A))):
            self.assertEqual(names_in(making), [])

    def test_rising_and_each_once(self):
        making = ("sum", ("pair", name("b"), name("ab")), ("row", ("bag", ("pair", name("b"), ("set", name("aa"))))))
        self.assertEqual(names_in(making), ["aa", "ab", "b"])
        self.assertEqual(names_in(name("zz")), ["zz"])
        for kind in ("row", "bag", "set"):
            self.assertEqual(names_in((kind, name("q"))), ["q"])
        for kind in ("sum", "pair"):
            self.assertEqual(names_in((kind, name("q"), name("p"))), ["p", "q"])
            self.assertEqual(names_in((kind, name("q"), name("q"))), ["q"])

    def test_letters_are_no_names(self):
        self.assertEqual(names_in(("sum", ("atom", "x"), name("y"))), ["y"])

    def test_lists_are_new(self):
        making = ("sum", name("b"), name("a"))
        told = names_in(making)
        self.assertIsInstance(told, list)
        told.append("c")
        told[0] = "z"
        self.assertEqual(names_in(making), ["a", "b"])

    def test_wrong_things(self):
        for bad in wrongs():
            with self.subTest(bad=bad):
                with self.assertRaises(BadMaking):
                    names_in(bad)


class PartsInTest(unittest.TestCase):
    def test_every_kind(self):
        for making, many in ((NONE, 1), (UNIT, 1), (A, 1), (name("w"), 1), (("sum", A, A), 3), (("pair", A, NONE), 3),
                             (("row", A), 2), (("bag", A), 2), (("set", A), 2),
                             (("pair", ("row", ("sum", A, UNIT)), ("bag", name("w"))), 7)):
            with self.subTest(making=making):
                self.assertEqual(parts_in(making), many)

    def test_same_parts_count_each_time(self):
        self.assertEqual(parts_in(("sum", ("row", A), ("row", A))), 5)

    def test_up_to_40(self):
        for many in range(1, 41):
            self.assertEqual(parts_in(of_parts(many)), many)
        with self.assertRaises(BadMaking):
            parts_in(of_parts(41))

    def test_deep(self):
        self.assertEqual(parts_in(of_depth(6)), 7)
        with self.assertRaises(BadMaking):
            parts_in(of_depth(7))

    def test_wrong_things(self):
        for bad in wrongs():
            with self.subTest(bad=bad):
                with self.assertRaises(BadMaking):
                    parts_in(bad)


if __name__ == "__main__":
    unittest.main()
