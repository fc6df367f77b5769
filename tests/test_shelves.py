"""A shelf of rules: the interface of stage 13, with [1] and [3] as far as shelves hang on it."""

import random
import time
import unittest
from functools import lru_cache

from countworks.counts import counts
from countworks.errors import BadBook, BadMaking, BadNumber, BadWord, NoRule, Nothing
from countworks.shelves import Shelf
from tests.helper import (
    A, AB, B, BY_HAND, JUNK, MIXED, NAT, NONE, UNIT, crowded_book, name, of_depth, of_parts, refused, series_counts,
    some_making, unfair,
)

WORDS = ["a", "bb", "ccc", "dddd", "eeeee", "ffffff", "ggggggg", "hhhhhhhh"]
NO_WORDS = [bad for bad in JUNK] + ["", "A", "aB", "a1", "a b", "abcdefghi", " a", "\u00e9", "\u0430", ("a",), ["a"], 1]
NO_SIZES = [-1, 41, True, False, None, "1", 1.0, (1,), [1], {}]
LATE = ("pair", ("pair", ("pair", A, A), ("pair", A, A)), ("pair", ("pair", A, A), ("pair", A, A)))


def names(making):
    if making[0] == "name":
        return {making[1]}
    return set().union(*[names(part) for part in making[1:] if isinstance(part, tuple)])


@lru_cache(maxsize=None)
def known(rules, word):
    return series_counts(dict(rules), name(word), 8)


def many(rules, word):
    return known(frozenset(rules.items()), word) if word in rules else [0] * 9


def others(before, after):
    return sorted(word for word in {**before, **after} if many(before, word) != many(after, word))


class Model:
    """What a shelf should be, kept by the test: each deed is a whole new dict of rules."""

    def __init__(self, book):
        self.line = [dict(book)]

    def put(self, word, making):
        rules = {**self.line[-1], word: making}
        lacks = sorted(names(making) - set(rules))
        if lacks:
            return NoRule, lacks[0]
        if len(rules) > 8:
            return BadBook, None
        if unfair(rules):
            return BadBook, unfair(rules)
        return self.deed(rules)

    def drop(self, word):
        rules = dict(self.line[-1])
        if word not in rules:
            return Nothing, None
        del rules[word]
        if any(word in names(rule) for rule in rules.values()):
            return NoRule, word
        if not rules:
            return BadBook, None
        return self.deed(rules)

    def deed(self, rules):
        told = others(self.line[-1], rules)
        self.line.append(rules)
        return None, told

    def undo(self):
        if len(self.line) == 1:
            return Nothing, None
        self.line.pop()
        return None, None


def field(error):
    for told in ("wrong", "lacks"):
        if hasattr(error, told):
            return getattr(error, told)
    return None


class DeedsTest(unittest.TestCase):
    def like(self, shelf, model):
        rules = model.line[-1]
        self.assertEqual(shelf.all_rules(), rules)
        self.assertEqual(shelf.deeds(), len(model.line) - 1)
        for word in WORDS + ["p", "q", "r", "s"]:
            if word in rules:
                self.assertEqual(shelf.counts(word, 8), many(rules, word))
            else:
                self.assertEqual(refused(self, NoRule, shelf.counts, word, 8).lacks, word)

    def do(self, shelf, model, deed, *hand):
        error, told = getattr(model, deed)(*hand)
        if error is None:
            self.assertEqual(getattr(shelf, deed)(*hand), told, (deed, hand))
        else:
            found = refused(self, error, getattr(shelf, deed), *hand)
            self.assertEqual(field(found), told, (deed, hand))
        return error

    def test_by_chance(self):
        chance = random.Random(131)
        seen = {}
        for _ in range(12):
            book = {"p": A, "q": ("sum", B, ("pair", A, name("p")))}
            shelf, model = Shelf(book), Model(book)
            for _ in range(60):
                deed = chance.choice(["put", "put", "put", "put", "drop", "drop", "undo"])
                # With more words the test's own look for rings takes too long.
                words = ["bb", "ccc", "p", "q", "r", "s"]
                word = chance.choice(words)
                hand = ()
                if deed == "drop":
                    hand = (chance.choice(list(model.line[-1]) + [word]),)
                if deed == "put":
                    named = list(model.line[-1]) + [word] + ([chance.choice(words)] if chance.random() < 0.2 else [])
                    hand = (word, some_making(chance, named, 3))
                error = self.do(shelf, model, deed, *hand)
                seen[(deed, error)] = seen.get((deed, error), 0) + 1
                self.like(shelf, model)
        for deed, error in (("put", None), ("put", NoRule), ("put", BadBook), ("drop", None), ("drop", NoRule),
                            ("drop", Nothing), ("undo", None)):
            self.assertGreater(seen.get((deed, error), 0), 2, (deed, error))

    def test_by_hand(self):
        shelf = Shelf({"p": A, "q": ("pair", name("p"), name("p"))})
        self.assertEqual(shelf.put("p", AB), ["p", "q"])
        self.assertEqual(shelf.put("r", ("row", name("q"))), ["r"])
        self.assertEqual(shelf.put("p", ("sum", B, A)), [])
        self.assertEqual(shelf.put("p", ("sum", B, A)), [])
        self.assertEqual(shelf.deeds(), 4)
        self.assertEqual(shelf.put("p", B), ["p", "q", "r"])
        self.assertEqual(shelf.drop("r"), ["r"])
        self.assertEqual(shelf.deeds(), 6)
        self.assertIsNone(shelf.undo())
        self.assertEqual(shelf.all_rules(), {"p": B, "q": ("pair", name("p"), name("p")), "r": ("row", name("q"))})
        self.assertEqual(shelf.counts("r", 4), [1, 0, 1, 0, 1])

    def test_words_without_things_so_small(self):
        nine = ("pair", A, LATE)
        shelf = Shelf({"p": A})
        self.assertEqual(shelf.put("q", NONE), [])
        self.assertEqual(shelf.put("r", nine), [])
        self.assertEqual(shelf.put("s", LATE), ["s"])
        self.assertEqual(shelf.put("s", ("pair", LATE, A)), ["s"])
        self.assertEqual(shelf.put("s", NONE), [])
        self.assertEqual(shelf.put("t", UNIT), ["t"])
        self.assertEqual(shelf.drop("r"), [])
        self.assertEqual(shelf.drop("q"), [])
        self.assertEqual(shelf.drop("t"), ["t"])
        self.assertEqual(shelf.put("p", ("sum", A, nine)), [])
        self.assertEqual(shelf.put("p", ("sum", A, LATE)), ["p"])
        self.assertEqual(shelf.deeds(), 11)

    def test_a_rule_that_names_the_word_itself(self):
        shelf = Shelf({"p": A})
        self.assertEqual(shelf.put("t", ("pair", A, ("bag", name("t")))), ["t"])
        self.assertEqual(shelf.counts("t", 6), [0, 1, 1, 2, 4, 9, 20])
        self.assertEqual(shelf.put("t", ("pair", A, ("row", name("t")))), ["t"])
        self.assertEqual(shelf.counts("t", 6), [0, 1, 1, 2, 5, 14, 42])
        self.assertEqual(shelf.drop("t"), ["t"])
        self.assertEqual(refused(self, BadBook, shelf.put, "t", name("t")).wrong, ["t"])
        self.assertEqual(refused(self, BadBook, shelf.put, "t", ("sum", A, name("t"))).wrong, ["t"])
        self.assertEqual(shelf.put("t", ("pair", A, name("t"))), [])

    def test_words_told_are_rising(self):
        shelf = Shelf({"zz": A, "b": name("zz"), "aa": name("b"), "m": B})
        self.assertEqual(shelf.put("zz", AB), ["aa", "b", "zz"])

    def test_eight_words_and_a_ninth(self):
        shelf = Shelf({word: A for word in WORDS[:7]})
        self.assertEqual(shelf.put(WORDS[7], A), [WORDS[7]])
        self.assertIsNone(refused(self, BadBook, shelf.put, "i", A).wrong)
        self.assertIsNone(refused(self, BadBook, shelf.put, "i", ("row", UNIT)).wrong)
        self.assertIsNone(refused(self, BadBook, shelf.put, "i", name("i")).wrong)
        self.assertEqual(refused(self, NoRule, shelf.put, "i", name("j")).lacks, "j")
        self.assertEqual(shelf.put(WORDS[7], B), [])
        self.assertEqual(shelf.drop(WORDS[0]), [WORDS[0]])
        self.assertEqual(shelf.put("i", A), ["i"])
        self.assertEqual(len(shelf.all_rules()), 8)

    def test_unfair_then(self):
        shelf = Shelf({"p": ("row", name("q")), "q": A, "r": ("pair", name("q"), B)})
        for word, making, wrong in (
            ("q", UNIT, ["p"]), ("q", ("row", A), ["p"]), ("q", ("sum", A, UNIT), ["p"]), ("p", ("row", UNIT), ["p"]),
            ("s", ("set", ("bag", A)), ["s"]), ("q", name("q"), ["q"]), ("q", name("r"), None), ("q", name("p"), ["p", "q"]),
            ("s", ("sum", name("q"), name("s")), ["s"]),
        ):
            if wrong is None:
                self.assertEqual(shelf.put(word, making), ["p", "q", "r"])
                shelf.undo()
            else:
                self.assertEqual(refused(self, BadBook, shelf.put, word, making).wrong, wrong)
        self.assertEqual(shelf.all_rules(), {"p": ("row", name("q")), "q": A, "r": ("pair", name("q"), B)})

    def test_drop(self):
        shelf = Shelf({"p": A, "q": name("p"), "t": ("pair", A, ("row", name("t")))})
        self.assertEqual(refused(self, NoRule, shelf.drop, "p").lacks, "p")
        refused(self, Nothing, shelf.drop, "r")
        self.assertEqual(shelf.drop("t"), ["t"])
        refused(self, Nothing, shelf.drop, "t")
        self.assertEqual(shelf.drop("q"), ["q"])
        self.assertIsNone(refused(self, BadBook, shelf.drop, "p").wrong)
        self.assertEqual((shelf.all_rules(), shelf.deeds()), ({"p": A}, 2))
        alone = Shelf({"t": ("pair", A, ("row", name("t")))})
        self.assertIsNone(refused(self, BadBook, alone.drop, "t").wrong)

    def test_undo_down_to_the_beginning(self):
        book = {"p": A, "q": B}
        shelf = Shelf(book)
        refused(self, Nothing, shelf.undo)
        states = [shelf.all_rules()]
        for deed, hand in ((shelf.put, ("r", AB)), (shelf.put, ("p", MIXED)), (shelf.drop, ("q",)), (shelf.put, ("q", NAT)),
                           (shelf.put, ("q", NAT)), (shelf.drop, ("r",))):
            deed(*hand)
            states.append(shelf.all_rules())
        while len(states) > 1:
            self.assertEqual((shelf.deeds(), shelf.all_rules()), (len(states) - 1, states.pop()))
            self.assertIsNone(shelf.undo())
        self.assertEqual((shelf.deeds(), shelf.all_rules()), (0, book))
        for _ in range(2):
            refused(self, Nothing, shelf.undo)
            self.assertEqual((shelf.deeds(), shelf.all_rules()), (0, book))
        self.assertEqual(shelf.put("p", AB), ["p"])
        self.assertEqual(shelf.deeds(), 1)

    def test_many_deeds(self):
        begin = time.perf_counter()
        shelf = Shelf({"p": A})
        for k in range(1000):
            shelf.put("p", AB if k % 2 == 0 else A)
        self.assertEqual(shelf.deeds(), 1000)
        for k in range(1000):
            shelf.undo()
        self.assertEqual(shelf.all_rules(), {"p": A})
        self.assertLess(time.perf_counter() - begin, 10)


class TwinTest(unittest.TestCase):
    def test_goes_by_itself(self):
        shelf = Shelf({"p": A})
        shelf.put("q", B)
        shelf.put("p", AB)
        twin = shelf.twin()
        self.assertIsInstance(twin, Shelf)
        self.assertEqual((twin.all_rules(), twin.deeds()), (shelf.all_rules(), 2))
        twin.put("r", A)
        self.assertEqual((shelf.deeds(), twin.deeds(), sorted(shelf.all_rules())), (2, 3, ["p", "q"]))
        shelf.undo()
        self.assertEqual((shelf.all_rules(), twin.all_rules()), ({"p": A, "q": B}, {"p": AB, "q": B, "r": A}))
        twin.undo()
        twin.undo()
        self.assertEqual(twin.all_rules(), {"p": A, "q": B})
        twin.undo()
        self.assertEqual(twin.all_rules(), {"p": A})
        refused(self, Nothing, twin.undo)
        self.assertEqual((shelf.deeds(), shelf.all_rules()), (1, {"p": A, "q": B}))
        shelf.undo()
        refused(self, Nothing, shelf.undo)

    def test_twins_of_twins(self):
        shelf = Shelf({"p": A})
        shelf.put("p", B)
        second = shelf.twin()
        third = second.twin()
        second.undo()
        self.assertEqual([one.deeds() for one in (shelf, second, third)], [1, 0, 1])
        self.assertEqual([one.all_rules()["p"] for one in (shelf, second, third)], [B, A, B])
        fresh = Shelf({"p": A}).twin()
        refused(self, Nothing, fresh.undo)
        self.assertEqual(fresh.put("q", A), ["q"])


class NothingIsKeptTest(unittest.TestCase):
    def test_the_book_handed_in(self):
        book = {"p": A, "q": name("p")}
        shelf = Shelf(book)
        book["p"] = AB
        book["r"] = B
        self.assertEqual(shelf.all_rules(), {"p": A, "q": name("p")})
        self.assertEqual(shelf.counts("q", 2), [0, 1, 0])
        shelf.put("p", MIXED)
        shelf.drop("q")
        self.assertEqual(book, {"p": AB, "q": name("p"), "r": B})

    def test_the_dict_told(self):
        shelf = Shelf({"p": A})
        shelf.put("q", B)
        told = shelf.all_rules()
        told["p"] = AB
        told.pop("q")
        told["r"] = B
        self.assertEqual(shelf.all_rules(), {"p": A, "q": B})
        shelf.undo()
        shelf.all_rules().clear()
        self.assertEqual(shelf.all_rules(), {"p": A})

    def test_the_lists_told(self):
        shelf = Shelf({"p": A})
        told = shelf.put("p", AB)
        told.append("q")
        self.assertEqual(shelf.put("p", A), ["p"])
        shelf.counts("p", 3).clear()
        self.assertEqual(shelf.counts("p", 3), [0, 1, 0, 0])

    def test_two_shelves_of_one_book(self):
        book = {"p": A}
        one, other = Shelf(book), Shelf(book)
        one.put("p", AB)
        self.assertEqual((other.all_rules(), other.deeds(), book), ({"p": A}, 0, {"p": A}))


class RefusalsTest(unittest.TestCase):
    def test_no_fair_books(self):
        for bad in JUNK + [{word: A for word in WORDS + ["i"]}, {"p": name("q")}, {"p": of_parts(41)}]:
            with self.subTest(bad=bad):
                self.assertIsNone(refused(self, BadBook, Shelf, bad).wrong)
        for book, wrong in (({"p": ("row", UNIT)}, ["p"]), ({"q": name("p"), "p": name("q"), "r": A}, ["p", "q"])):
            self.assertEqual(refused(self, BadBook, Shelf, book).wrong, wrong)

    def asks(self, shelf):
        """What is refused, and with which field; of several that are due the first one."""
        for bad in NO_WORDS:
            yield BadWord, None, shelf.put, (bad, A)
            yield BadWord, None, shelf.put, (bad, None)
            yield BadWord, None, shelf.drop, (bad,)
            yield BadWord, None, shelf.counts, (bad, 3)
            yield BadWord, None, shelf.counts, (bad, None)
        for bad in JUNK + [of_parts(41), of_depth(7), ("row", ("pair", name("zz"), None))]:
            yield BadMaking, None, shelf.put, ("p", bad)
            yield BadMaking, None, shelf.put, ("new", bad)
        for making, lacks in ((name("zz"), "zz"), (("sum", name("zz"), name("yy")), "yy"), (("row", name("new")), "new"),
                              (("pair", ("row", UNIT), name("zz")), "zz"), (("sum", name("p"), name("b")), "b")):
            yield NoRule, lacks, shelf.put, ("p", making)
        yield NoRule, "y", shelf.put, ("new", ("sum", name("new"), name("y")))
        yield BadBook, ["p"], shelf.put, ("p", ("row", UNIT))
        yield BadBook, ["new"], shelf.put, ("new", name("new"))
        yield BadBook, ["p", "q"], shelf.put, ("p", name("q"))
        yield NoRule, "p", shelf.drop, ("p",)
        yield Nothing, None, shelf.drop, ("new",)
        yield NoRule, "new", shelf.counts, ("new", 3)
        yield NoRule, "new", shelf.counts, ("new", None)
        for bad in NO_SIZES:
            yield BadNumber, None, shelf.counts, ("p", bad)

    def test_each_and_nothing_changes(self):
        shelf = Shelf({"p": A, "q": ("sum", B, name("p"))})
        shelf.put("r", NAT)
        before = (list(shelf.all_rules().items()), shelf.deeds(), shelf.counts("q", 20))
        for error, told, ask, hand in self.asks(shelf):
            with self.subTest(ask=ask.__name__, hand=hand):
                self.assertEqual(field(refused(self, error, ask, *hand)), told)
                self.assertEqual((list(shelf.all_rules().items()), shelf.deeds(), shelf.counts("q", 20)), before)
        shelf.undo()
        self.assertEqual((shelf.all_rules(), shelf.deeds()), ({"p": A, "q": ("sum", B, name("p"))}, 0))

    def test_a_list_told_by_a_refusal_is_the_askers(self):
        shelf = Shelf({"p": A})
        refused(self, BadBook, shelf.put, "p", name("p")).wrong.clear()
        self.assertEqual(refused(self, BadBook, shelf.put, "p", name("p")).wrong, ["p"])


class CountsTest(unittest.TestCase):
    def test_as_in_stage_2(self):
        for book in BY_HAND.values():
            shelf = Shelf(book)
            for word in book:
                for most in (0, 1, 8, 40):
                    self.assertEqual(shelf.counts(word, most), counts(book, name(word), most))

    def test_full_books(self):
        chance = random.Random(132)
        begin = time.perf_counter()
        book = crowded_book(chance)
        shelf = Shelf(book)
        for word in list(book)[:4]:
            rules = {**shelf.all_rules(), word: ("sum", A, ("pair", B, ("row", A)))}
            told = [one for one in sorted(book) if counts(shelf.all_rules(), name(one), 8) != counts(rules, name(one), 8)]
            self.assertEqual(shelf.put(word, rules[word]), told)
        self.assertLess(time.perf_counter() - begin, 20)


if __name__ == "__main__":
    unittest.main()
