"""The whole: [1], [2] and [3] over all stages at once."""

import copy
import random
import subprocess
import sys
import unittest

from countworks import errors
from countworks.avoiding import avoider_at, avoiders, first_avoider, how_many_avoid, is_ended
from countworks.books import bare_names, is_book, may_be_bare, need_fair, unfair
from countworks.counts import count, counts, first_size
from countworks.draws import digits_for, drawn, drawn_number
from countworks.errors import (
    BadBook, BadMaking, BadNumber, BadParts, BadSeries, BadTape, BadText, BadThing, BadWord, CountError, Ended, Full,
    NoRule, NoStep, Nothing, NotPlain,
)
from countworks.fractions import added_of, fraction, going_on, is_plain, parted_size, terms, times_of
from countworks.letters import by_letter, letters_in, mean
from countworks.makings import is_making, names_in, parts_in
from countworks.numbers import next_thing, number_of, thing_at
from countworks.papers import led, led_back, paper_makes, shows_alike, step_makes, turned
from countworks.parting import how_many_parts, laid_over, odd_of, parts, unlike_of
from countworks.rings import falls, how_many_rings, how_many_simple, rings, round_of, simple_rings
from countworks.series import added, bags_of, inside, is_series, rows_of, sets_of, spread, times
from countworks.shelves import Shelf
from countworks.texts import book_text, making_text, read_book, read_making, read_thing, thing_text
from countworks.things import is_ahead, is_thing, listing, size_of
from tests.helper import A, AB, ABC, B, JUNK, NAT, UNIT, name, refused, small_cases, total

BOOK = {"w": ("sum", UNIT, ("pair", A, name("w"))), "t": ("pair", AB, ("bag", name("t"))), "n": NAT}
TREE = ("a", ())
PAPER = [("open", (), "there"), ("swap", (), "there"), ("turn", (0,), "there")]

# Every function once, with what is right to hand in.
ASKS = [
    (is_making, (AB,)), (names_in, (BOOK["t"],)), (parts_in, (AB,)), (is_book, (BOOK,)), (may_be_bare, (BOOK, name("w"))),
    (bare_names, (BOOK, ("sum", name("t"), name("w")))), (unfair, ({"a": name("a"), "b": A},)), (need_fair, (BOOK,)),
    (count, (BOOK, name("t"), 9)), (counts, (BOOK, name("t"), 9)), (first_size, (BOOK, name("t"), 9)),
    (listing, (BOOK, name("t"), 4)), (is_thing, (BOOK, name("t"), ((0, "a"), ()))), (size_of, (TREE,)),
    (is_ahead, (BOOK, AB, (0, "a"), (1, "b"))), (number_of, (BOOK, AB, (1, "b"))), (thing_at, (BOOK, name("t"), 5, 7)),
    (next_thing, (BOOK, AB, (0, "a"))), (digits_for, (5,)), (drawn_number, (5, [1, 1, 1, 0, 1, 0])),
    (drawn, (BOOK, AB, 1, [1, 0])), (is_series, ((1, 2),)), (added, ((1, 2), (3, 4))), (times, ((1, 2), (3, 4))),
    (rows_of, ((0, 2, 1),)), (bags_of, ((0, 2, 1),)), (sets_of, ((0, 2, 1),)), (inside, ((1, 1, 1), (0, 1, 1))),
    (spread, ((1, 2, 3), 2)), (is_plain, (BOOK, NAT)), (fraction, (BOOK, NAT)), (terms, (((1,), (1, -2)), 5)),
    (parted_size, (BOOK, NAT, ("row", A))), (going_on, (BOOK, NAT)), (times_of, (((1,), (1, -1)), ((1,), (1, 1)))),
    (added_of, (((1,), (1, -1)), ((1,), (1, 1)))), (step_makes, (BOOK, AB, ("swap", (), "there"))),
    (paper_makes, (BOOK, name("w"), PAPER)), (led, (BOOK, name("w"), PAPER, (1, ("a", (0, ()))))),
    (led_back, (BOOK, name("w"), PAPER, (0, ((0, ()), "a")))), (turned, (BOOK, name("w"), PAPER)),
    (shows_alike, (BOOK, name("w"), name("w"), [])), (by_letter, (BOOK, name("t"), 5, "a")), (mean, (BOOK, name("t"), 5, "a")),
    (letters_in, (BOOK, name("t"), 5)), (round_of, ("banana",)), (rings, ("abc", 4)), (how_many_rings, ("abc", 20)),
    (simple_rings, ("abc", 4)), (how_many_simple, ("abc", 20)), (falls, ("banana",)), (avoiders, ("ab", ["aa", "bbb"], 6)),
    (how_many_avoid, ("ab", ["aa"], 60)), (is_ended, ("ab", ["aa", "bb"])), (first_avoider, ("ab", ["aa"], 9)),
    (avoider_at, ("ab", ["aa"], 9, 5)), (parts, (7,)), (how_many_parts, (70,)), (laid_over, ((3, 1),)), (unlike_of, ((3, 3),)),
    (odd_of, ((6,),)), (making_text, (AB,)), (read_making, ("('a'+b)",)), (book_text, (BOOK,)), (read_book, ("a = 0\nb = a",)),
    (thing_text, ((1, "a"),)), (read_thing, ("<1 a>",)), (lambda book: Shelf(book).put("x", A), (BOOK,)),
    (lambda book: Shelf(book).drop("n"), (BOOK,)), (lambda book: Shelf(book).all_rules(), (BOOK,)),
    (lambda book: Shelf(book).counts("t", 9), (BOOK,)), (lambda book: Shelf(book).twin().deeds(), (BOOK,)),
]

# Every refusal once, with its field where it has one.
REFUSALS = [
    (BadMaking, None, names_in, (None,)), (BadBook, None, need_fair, ({},)), (BadBook, ["a"], need_fair, ({"a": name("a")},)),
    (BadNumber, None, counts, (BOOK, A, 41)), (BadThing, None, size_of, (2,)), (BadTape, None, drawn_number, (2, [2])),
    (Ended, None, drawn_number, (2, [])), (BadSeries, None, rows_of, ((1,),)), (NotPlain, None, fraction, (BOOK, name("w"))),
    (NoStep, None, step_makes, (BOOK, A, None)), (NoStep, 0, paper_makes, (BOOK, A, [None])), (BadWord, None, round_of, ("A",)),
    (BadParts, None, laid_over, ((1, 2),)), (Full, None, rings, ("abcd", 12)), (NoRule, "z", counts, (BOOK, name("z"), 1)),
    (Nothing, None, lambda: Shelf(BOOK).undo(), ()), (BadText, None, read_making, ("",)),
]
FIELDS = {BadBook: "wrong", NoStep: "spot", NoRule: "lacks"}


def spoil(told):
    """Change what was told as far as it can be changed."""
    if isinstance(told, list):
        told.append(None)
        told.reverse()
    if isinstance(told, dict):
        told["zz"] = None


class AskedTwiceTest(unittest.TestCase):
    def test_told_alike_with_others_between(self):
        first = [copy.deepcopy(ask(*hand)) for ask, hand in ASKS]
        chance = random.Random(1)
        for _ in range(3):
            order = list(range(len(ASKS)))
            chance.shuffle(order)
            for at in order:
                ask, hand = ASKS[at]
                self.assertEqual(ask(*hand), first[at])
                error, told, wrong, bad = chance.choice(REFUSALS)
                refused(self, error, wrong, *bad)

    def test_what_was_told_is_the_askers(self):
        for ask, hand in ASKS:
            kept = copy.deepcopy(ask(*hand))
            spoil(ask(*hand))
            self.assertEqual(ask(*hand), kept)

    def test_what_is_handed_in_stays(self):
        for ask, hand in ASKS + [(ask, hand) for error, told, ask, hand in REFUSALS]:
            before = repr(hand)
            try:
                ask(*hand)
            except CountError:
                pass
            self.assertEqual(repr(hand), before)

    def test_the_same_in_another_run(self):
        """Nothing hangs on the order of sets, which is another one with another seed."""
        ask = ("from tests.test_whole import ASKS\n"
               "for ask, hand in ASKS:\n    print(repr(ask(*hand)))\n")
        told = [
            subprocess.run([sys.executable, "-c", ask], capture_output=True, text=True, check=True,
                           env={"PYTHONPATH": ":".join(sys.path), "PYTHONHASHSEED": seed}).stdout
            for seed in ("1", "2", "77")
        ]
        self.assertEqual((told[0], told[0]), (told[1], told[2]))


class RefusalsTest(unittest.TestCase):
    def test_every_refusal_is_met(self):
        met = {error.__name__ for error, told, ask, hand in REFUSALS}
        known = {key for key, found in vars(errors).items() if isinstance(found, type)}
        self.assertEqual(met, known - {"CountError"})

    def test_each_of_its_own_class_with_its_field(self):
        classes = [error for error, told, ask, hand in REFUSALS]
        for error, told, ask, hand in REFUSALS:
            found = refused(self, error, ask, *hand)
            self.assertIsInstance(found, CountError)
            self.assertIsInstance(found, ValueError)
            self.assertEqual({one for one in classes if isinstance(found, one)}, {error})
            if error in FIELDS:
                self.assertEqual(getattr(found, FIELDS[error]), told)

    def test_things_of_any_kind(self):
        """Whatever is handed in in any place is answered or refused, and nothing else comes of it."""
        for ask, hand in ASKS:
            for at in range(len(hand)):
                for bad in JUNK:
                    try:
                        ask(*hand[:at], bad, *hand[at + 1:])
                    except CountError:
                        pass

    def test_the_thing_handed_in_first(self):
        for ask, hand, error in (
            (counts, (None, None, None), BadBook), (counts, (BOOK, None, None), BadMaking), (counts, (BOOK, A, None), BadNumber),
            (counts, (BOOK, name("z"), None), NoRule), (drawn, (BOOK, A, 1, None), BadTape), (drawn, (BOOK, A, 0, None), BadNumber),
            (spread, (None, None), BadSeries), (spread, ((1,), None), BadNumber), (terms, (None, None), BadSeries),
            (terms, (((), (1,)), None), BadNumber), (parted_size, (BOOK, name("w"), None), NotPlain),
            (parted_size, (BOOK, A, None), BadMaking), (led, (BOOK, A, None, None), NoStep), (led, (BOOK, A, [], None), BadThing),
            (led, (BOOK, None, None, None), BadMaking), (shows_alike, (BOOK, None, name("z"), None), BadMaking),
            (shows_alike, (BOOK, name("z"), None, None), NoRule), (by_letter, (BOOK, A, None, None), BadNumber),
            (by_letter, (BOOK, A, 1, None), BadWord), (mean, (BOOK, A, 0, None), BadNumber), (mean, (BOOK, A, 1, None), BadWord),
            (rings, (None, None), BadWord), (rings, ("abcd", None), BadNumber), (rings, ("abcd", 12), Full),
            (avoiders, (None, None, None), BadWord), (avoiders, ("ab", None, None), BadWord), (avoiders, ("ab", [], None), BadNumber),
            (avoiders, ("abcd", [], 12), Full), (avoider_at, ("ab", ["c"], None, None), BadWord),
            (avoider_at, ("ab", [], 3, 8), BadNumber), (thing_at, (BOOK, A, 1, 1), BadNumber),
        ):
            with self.subTest(ask=ask.__name__, hand=hand):
                refused(self, error, ask, *hand)


class CountedAsListedTest(unittest.TestCase):
    def test_things(self):
        for book, making in small_cases(random.Random(2), 20):
            for size in range(4):
                told = listing(book, making, size)
                self.assertEqual(count(book, making, size), len(told))
                self.assertEqual(sum(by_letter(book, making, size, "a")), len(told))
                for number, thing in enumerate(told[:30]):
                    self.assertTrue(is_thing(book, making, thing))
                    self.assertEqual((number_of(book, making, thing), thing_at(book, making, size, number)), (number, thing))
                    self.assertEqual(read_thing(thing_text(thing)), thing)

    def test_rows_of_letters_are_texts_that_avoid_nothing(self):
        for letters, making in (("a", A), ("ab", AB), ("abc", ABC), ("abcd", total(A, B, ("atom", "c"), ("atom", "d")))):
            self.assertEqual([how_many_avoid(letters, [], size) for size in range(41)], counts(BOOK, ("row", making), 40))
            self.assertEqual([len(avoiders(letters, [], size)) for size in range(6)], counts(BOOK, ("row", making), 5))

    def test_texts_that_avoid_as_fractions(self):
        """Texts of a and b without aa are rows of b and ab, with an a at the end or none."""
        making = ("pair", ("row", ("sum", B, ("pair", A, B))), ("sum", UNIT, A))
        self.assertEqual([how_many_avoid("ab", ["aa"], size) for size in range(41)], terms(fraction(BOOK, making), 40))

    def test_bags_of_simple_rounds_are_all_texts(self):
        for letters in ("a", "ab", "abc", "abcd"):
            simple = (0,) + tuple(how_many_simple(letters, size) for size in range(1, 41))
            self.assertEqual(bags_of(simple), tuple(how_many_avoid(letters, [], size) for size in range(41)))
        for size in range(7):
            texts = avoiders("ab", [], size)
            told = [tuple(falls(text)) for text in texts]
            self.assertEqual(len(set(told)), len(texts))
            for fall in told:
                self.assertTrue(all(one in simple_rings("ab", len(one)) for one in fall))

    def test_rings_are_powers_of_simple_ones(self):
        for letters in ("a", "ab", "abc", "abcd"):
            for size in range(1, 41):
                divisors = [d for d in range(1, size + 1) if size % d == 0]
                self.assertEqual(how_many_rings(letters, size), sum(how_many_simple(letters, d) for d in divisors))
                self.assertEqual(len(letters) ** size, sum(d * how_many_simple(letters, d) for d in divisors))
            for text in rings(letters, 5):
                self.assertEqual(round_of(text[2:] + text[:2]), text)

    def test_bags_and_sets_of_numbers_are_parts(self):
        self.assertEqual(counts(BOOK, ("bag", name("n")), 40), [how_many_parts(number) for number in range(41)])
        self.assertEqual(counts(BOOK, ("set", name("n")), 40), [how_many_parts(number, unlike=True) for number in range(41)])
        self.assertEqual([len(parts(number)) for number in range(20)], counts(BOOK, ("bag", NAT), 19))
        self.assertEqual([len(parts(number, unlike=True)) for number in range(31)], counts(BOOK, ("set", NAT), 30))

    def test_papers_show_alike_what_fractions_do(self):
        making = ("row", AB)
        paper = [("roll", (), "there"), ("turn", (1,), "there"), ("deal", (1,), "there"), ("swap", (), "there")]
        behind = paper_makes(BOOK, making, paper)
        self.assertIsNone(parted_size(BOOK, making, behind))
        self.assertEqual(fraction(BOOK, making), fraction(BOOK, behind))
        for size in range(5):
            told = [led(BOOK, making, paper, thing) for thing in listing(BOOK, making, size)]
            self.assertEqual(sorted(told), sorted(listing(BOOK, behind, size)))

    def test_each_tape_of_fair_length(self):
        told = {}
        for number in range(2 ** 6):
            tape = [number >> k & 1 for k in range(6)]
            thing, taken = drawn(BOOK, ("row", AB), 3, tape[:3])
            told[thing] = told.get(thing, 0) + 1
        self.assertEqual(sorted(told), sorted(listing(BOOK, ("row", AB), 3)))
        self.assertEqual(set(told.values()), {8})

    def test_shelves_count_as_books(self):
        shelf = Shelf(read_book(book_text(BOOK)))
        self.assertEqual(shelf.all_rules(), BOOK)
        for word in BOOK:
            self.assertEqual(shelf.counts(word, 40), counts(BOOK, name(word), 40))


if __name__ == "__main__":
    unittest.main()
