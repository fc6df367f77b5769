"""Refusals of books and makings, the order of several refusals, and what stays: [1] and [3], from stage 3 on."""

import copy
import unittest

from countworks.draws import drawn, drawn_number
from countworks.errors import (
    BadBook, BadMaking, BadNumber, BadSeries, BadTape, BadThing, BadWord, CountError, Ended, Full, NoRule, NoStep,
    NotPlain,
)
from countworks.fractions import fraction, going_on, is_plain, parted_size, terms
from countworks.letters import by_letter, letters_in, mean
from countworks.numbers import next_thing, number_of, thing_at
from countworks.papers import led, led_back, paper_makes, shows_alike, step_makes, turned
from countworks.rings import rings, round_of
from countworks.series import added, inside, spread, times
from countworks.things import is_ahead, is_thing, listing
from tests.helper import A, AB, BUNCHES, BY_HAND, JUNK, PLAIN, UNIT, name, of_depth, of_parts, refused

# Each function that takes a book and a making, with what is handed in behind them: right, and wrong in each place.
ASKS = [
    (listing, [(1,), (True,), (-1,), (41,), (None,)]),
    (is_thing, [("a",), (None,), ([],)]),
    (is_ahead, [("a", "a"), (None, "a"), ("a", None), ([], {})]),
    (number_of, [("a",), (None,), ([],)]),
    (thing_at, [(1, 0), (True, 0), (41, 0), (1, True), (1, -1), (None, None)]),
    (next_thing, [("a",), (None,), ([],)]),
    (drawn, [(1, []), (True, []), (41, []), (1, [True]), (1, None), (None, None)]),
    (is_plain, [()]),
    (fraction, [()]),
    (going_on, [()]),
    (parted_size, [(A,), (None,), (("bag", A),), (name("zz"),)]),
    (step_makes, [(("drop", (), "back"),), (None,), (("swap", (), "there"),), ([],)]),
    (paper_makes, [([],), (None,), ([None],), ((),)]),
    (led, [([], "a"), (None, "a"), ([], None), ([None], None)]),
    (led_back, [([], "a"), (None, "a"), ([], None), ([None], None)]),
    (turned, [([],), (None,), ([None],), ((),)]),
    (shows_alike, [(A, []), (A, None), (None, []), (name("zz"), None)]),
    (by_letter, [(1, "a"), (True, "a"), (25, "a"), (1, "A"), (None, None)]),
    (mean, [(1, "a"), (True, "a"), (25, "a"), (0, "a"), (1, "A"), (None, None)]),
    (letters_in, [(1,), (True,), (-1,), (25,), (None,)]),
]

# A row of what may be bare in a making that names a word that lacks: BadMaking is told ahead of NoRule.
BOTH = [
    ("sum", name("zz"), ("row", UNIT)), ("row", ("sum", name("zz"), UNIT)), ("pair", ("bag", ("row", name("zz"))), A),
]


def all_asks():
    for ask, hands in ASKS:
        for hand in hands:
            yield ask, hand


class BooksAndMakingsTest(unittest.TestCase):
    def test_all_are_answered(self):
        for ask, hands in ASKS:
            ask(PLAIN, A, *hands[0])

    def test_no_books(self):
        for bad in JUNK + [{}, {"a": name("b")}, {word: A for word in "abcdefghi"}, {"a": of_parts(41)}]:
            for ask, hand in all_asks():
                for making in (A, None, name("zz")):
                    with self.subTest(ask=ask.__name__, bad=bad, making=making):
                        self.assertIsNone(refused(self, BadBook, ask, bad, making, *hand).wrong)

    def test_unfair_books(self):
        for book, wrong in (({"a": ("row", UNIT)}, ["a"]), ({"c": name("b"), "b": name("c"), "a": A}, ["b", "c"]),
                            ({"z": ("set", ("bag", A)), "a": ("sum", UNIT, name("a")), "k": A}, ["a", "z"])):
            for ask, hand in all_asks():
                for making in (A, None, ("row", UNIT), name("zz")):
                    with self.subTest(ask=ask.__name__, book=book, making=making):
                        self.assertEqual(refused(self, BadBook, ask, book, making, *hand).wrong, wrong)

    def test_no_makings(self):
        for bad in JUNK + [of_parts(41), of_depth(7), ("row",), ("pair", A, None), ("sum", name("zz"), None)]:
            for ask, hand in all_asks():
                with self.subTest(ask=ask.__name__, bad=bad):
                    refused(self, BadMaking, ask, PLAIN, bad, *hand)

    def test_makings_of_what_may_be_bare(self):
        for kind in BUNCHES:
            for part in (UNIT, name("u"), ("row", A), ("sum", A, UNIT)):
                for making in ((kind, part), ("row", ("pair", A, ("sum", A, (kind, part))))):
                    for ask, hand in all_asks():
                        with self.subTest(ask=ask.__name__, making=making):
                            refused(self, BadMaking, ask, PLAIN, making, *hand)
        for making in BOTH:
            for ask, hand in all_asks():
                refused(self, BadMaking, ask, PLAIN, making, *hand)

    def test_words_that_lack(self):
        for making, lacks in ((name("z"), "z"), (("row", name("z")), "z"), (("sum", name("y"), name("x")), "x"),
                              (("pair", name("u"), ("sum", name("b"), name("aa"))), "aa")):
            for ask, hand in all_asks():
                with self.subTest(ask=ask.__name__, making=making):
                    self.assertEqual(refused(self, NoRule, ask, PLAIN, making, *hand).lacks, lacks)


class OrderTest(unittest.TestCase):
    def test_sizes_ahead_of_tapes(self):
        for size in (True, -1, 41, None, 0, 2):
            for tape in (None, [True], [2], (0, 1), []):
                refused(self, BadNumber, drawn, PLAIN, A, size, tape)

    def test_tapes_ahead_of_their_end(self):
        refused(self, BadTape, drawn, PLAIN, ("row", AB), 3, [1, True])
        refused(self, BadTape, drawn, PLAIN, ("row", AB), 3, (1,))
        refused(self, Ended, drawn, PLAIN, ("row", AB), 3, [1, 1])
        refused(self, BadTape, drawn_number, 8, [1, True])
        refused(self, BadNumber, drawn_number, 0, [1, True])

    def test_numbers_ahead_of_full(self):
        for size in (True, -1, 41, None):
            refused(self, BadNumber, listing, PLAIN, ("row", AB), size)
        refused(self, Full, listing, PLAIN, ("row", AB), 40)

    def test_makings_ahead_of_what_is_plain(self):
        for ask in (fraction, going_on):
            refused(self, BadMaking, ask, PLAIN, ("bag", UNIT))
            refused(self, BadMaking, ask, PLAIN, ("bag", None))
            refused(self, NoRule, ask, PLAIN, ("bag", name("zz")))
            refused(self, NotPlain, ask, PLAIN, ("bag", A))

    def test_sizes_ahead_of_letters(self):
        for ask in (by_letter, mean):
            refused(self, BadNumber, ask, PLAIN, A, 25, None)
            refused(self, BadWord, ask, PLAIN, A, 1, None)

    def test_letters_ahead_of_sizes_ahead_of_full(self):
        refused(self, BadWord, rings, "ba", True)
        refused(self, BadNumber, rings, "abcd", 13)
        refused(self, Full, rings, "abcd", 12)
        refused(self, BadWord, round_of, "a" * 61)

    def test_series_ahead_of_numbers(self):
        refused(self, BadSeries, terms, ((1,), (2,)), True)
        refused(self, BadNumber, terms, ((1,), (1,)), True)
        refused(self, BadSeries, spread, (True,), True)
        refused(self, BadSeries, spread, [], 0)
        refused(self, BadNumber, spread, (1,), True)

    def test_each_stands_under_count_error_and_no_other(self):
        asks = [
            (BadThing, number_of, PLAIN, A, "b"), (BadNumber, thing_at, PLAIN, A, 1, 1), (BadTape, drawn, PLAIN, A, 1, 0),
            (Ended, drawn, PLAIN, AB, 1, []), (Full, listing, PLAIN, ("row", AB), 30), (BadSeries, times, (), (0,)),
            (BadBook, listing, {}, A, 1), (BadMaking, listing, PLAIN, (), 1), (NoRule, listing, PLAIN, name("zz"), 1),
            (NotPlain, fraction, PLAIN, ("bag", A)), (NoStep, step_makes, PLAIN, A, None), (BadWord, rings, "ba", 3),
        ]
        classes = [error for error, *rest in asks]
        for error, ask, *hand in asks:
            found = refused(self, error, ask, *hand)
            self.assertIsInstance(found, CountError)
            self.assertIsInstance(found, ValueError)
            self.assertEqual([one for one in classes if isinstance(found, one)], [error])


class NothingChangesTest(unittest.TestCase):
    def test_refusals_change_nothing(self):
        book = dict(BY_HAND["three words"])
        before = copy.deepcopy(book)
        told = listing(book, name("p"), 4)
        for ask, hand in all_asks():
            for making in (None, name("zz"), ("row", UNIT), A):
                given = copy.deepcopy(hand)
                try:
                    ask(book, making, *given)
                except CountError:
                    pass
                self.assertEqual(repr(given), repr(hand))
        self.assertEqual(list(book.items()), list(before.items()))
        self.assertEqual(listing(book, name("p"), 4), told)

    def test_a_changed_book_is_asked_anew(self):
        book = {"w": A}
        self.assertEqual((listing(book, name("w"), 1), is_thing(book, name("w"), "a")), (["a"], True))
        book["w"] = ("pair", A, A)
        self.assertEqual((listing(book, name("w"), 1), is_thing(book, name("w"), "a")), ([], False))
        self.assertEqual(thing_at(book, name("w"), 2, 0), ("a", "a"))
        book["w"] = AB
        self.assertEqual(number_of(book, name("w"), (1, "b")), 1)
        book["w"] = ("sum", ("pair", A, A), ("atom", "b"))
        self.assertEqual(number_of(book, name("w"), (1, "b")), 0)

    def test_a_changed_tape_is_read_anew(self):
        tape = [0, 0]
        self.assertEqual(drawn_number(4, tape), (0, 2))
        tape[1] = 1
        self.assertEqual(drawn_number(4, tape), (1, 2))

    def test_series_stay(self):
        one, other = (3, 1, 2), (0, 5, 6, 7)
        for ask in (added, times, inside):
            ask(one, other)
        self.assertEqual((one, other), ((3, 1, 2), (0, 5, 6, 7)))


if __name__ == "__main__":
    unittest.main()
