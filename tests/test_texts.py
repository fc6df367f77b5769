"""Texts of makings, books and things: the interface of stage 14, with [3] as far as texts hang on it."""

import random
import time
import unittest
from itertools import product

from countworks.errors import BadBook, BadMaking, BadText, BadThing
from countworks.makings import is_making
from countworks.texts import book_text, making_text, read_book, read_making, read_thing, thing_text
from countworks.things import listing
from tests.helper import (
    A, AB, B, BUNCHES, BY_HAND, EVERY_BUNCH, EVERY_KIND, JUNK, MIXED, NAT, NONE, PLAIN, UNIT, name, of_depth, of_parts,
    refused, some_book, some_making, total,
)

NO_TEXTS = [bad for bad in JUNK if not isinstance(bad, str)] + [0, 1, ("a",), ["a"], {"a": "0"}, b"0", ("0",), ["0"]]

# None of these is the text of a making.
NO_MAKINGS = [
    "", " ", "\n", "0 ", " 0", "0\n", "\n0", "00", "01", "10", "2", "-1", "a ", " a", "A", "aB", "Ab", "a1", "1a", "a0", "0a",
    "'", "''", "'a", "a'", "'ab'", "'A'", "'1'", "' '", "'''", "'a''", "''a'", "'a'b", "a'b'", '"a"', "`a`", "abcdefghi",
    "()", "(", ")", "(0)", "((0+1))", "(0+1", "0+1", "0.1", "0+1)", "(0+)", "(+1)", "(+)", "(0 + 1)", "(0+ 1)", "(0 +1)",
    "(0+1)+1", "(0+1+1)", "(0.1.1)", "(0+1.1)", "(0,1)", "(0*1)", "(0-1)", "(0+1))", "((0+1)", "[0+1]", "{0+1}", "(01)",
    "(0++1)", "(0..1)", "(0+.1)", "row()", "row(0", "row0", "row 0", "row (0)", "row[0]", "row(0))", "row(0,1)", "row(0+1)",
    "row((0))", "rows(0)", "Row(0)", "ROW(0)", "a(0)", "sum(0)", "pair(0)", "bag(", "set)", "bag()", "set()", "rowbag(0)",
    "row(0)bag(0)", "row(0)1", "row(0) ", "bag( 0)", "set(0 )", "(none)", "('a'+'b)", "('a'+b')", "(a+b)c",
    "\u0430", "\uff10", "\u0661", "\u00b9", "\u2070", "'\u0430'", "'\u00e9'", "\u00e9", "(0\uff0b1)", "\uff080+1\uff09",
    "row\uff080\uff09", "\u2019a\u2019", "\u00a00", "0\t", "0\r", "0\r\n", "\ufeff0", "0\x00", "(0+1)\n", "a\u0301", "\u017f",
    "None", "True", "('unit',)", "0;1", "(0|1)", "(0&1)", "(0/1)", "<0>", "< >", "(row+set", "row+set", "(row()+1)",
]

NO_BOOKS = [
    "", " ", "\n", "a", "a = ", "a =0", "a= 0", "a=0", "a  = 0", "a =  0", " a = 0", "a = 0 ", "a = 0\n", "\na = 0", "a = 0\n\nb = 0",
    "a = 0\n\n", "b = 0\na = 0", "a = 0\na = 0", "a = 0\na = 1", "a = 0\nb = 0\na = 0", "a = b", "a = (b+c)\nb = 0", "A = 0",
    "a1 = 0", "abcdefghi = 0", " = 0", "= 0", "0 = 0", "a = A", "a = 0 = 0", "a = b = 0", "a = 0;b = 0", "a = 0 b = 0",
    "a = 0\r\nb = 0", "a = 0\rb = 0", "a = 0\x0bb = 0", "a = 0\x0cb = 0", "a = 0\x1cb = 0", "a = 0\u2028b = 0", "a = 0\u0085b = 0",
    "a == 0", "a := 0", "a: 0", "{'a': 0}", "a = 0\n b = 0", "a = 0 \nb = 0", "a = 0\nb", "a = 0\nb = ", "a\u00a0=\u00a00",
    "\u0430 = 0", "a = \uff10", "\n".join(f"{word} = 0" for word in "abcdefghi"), "a = (0+1", "a = row()", "a\n= 0", "a =\n0",
    "a\t=\t0", "b = 0\nab = 0", "aa = 0\na = 0",
]

NO_THINGS = [
    "", " ", "  ", "\n", "A", "2", "-1", "ab", "a b", "a ", " a", "aa", "01", "0 1", "<", ">", "<>>", "<<>", "><", "<> ", " <>", "< >",
    "< a>", "<a >", "<a  b>", "<ab>", "<a,b>", "<a, b>", "(a)", "[a]", "()", "<a b", "a b>", "<a><b>", "<a> <b>", "<<a><b>>",
    "<<a>  <b>>", "<a <b>", "<a b>>", "<a\nb>", "<a\tb>", "<A>", "<2>", "<1.0>", "<True>", "'a'", "<'a'>", "<a>\n", "\u0430",
    "<\u0430>", "\uff11", "<\u00b9>", "\uff1ca\uff1e", "<a\u00a0b>", "a\x00", "None", "<a >b", "<a>b", "b<a>", "<<>a>", "<a<>>", "<0 1",
    "<<>,<>>", "<> <>", ">a<", "> <", "<a b >", "< a b>", "<a <> b >", "0<>", "<>0", "\u0661", "<10>", "<01>",
]


def changed(text):
    """A text with a sign more, less or another."""
    signs = "01'abrow()+.<>= \n\tA-\u0430"
    for at in range(len(text) + 1):
        for sign in signs:
            yield text[:at] + sign + text[at:]
        if at < len(text):
            yield text[:at] + text[at + 1:]
            for sign in signs:
                yield text[:at] + sign + text[at + 1:]


def written(making):
    """The text of a making, by its words."""
    match making:
        case ("none",):
            return "0"
        case ("unit",):
            return "1"
        case ("atom", letter):
            return f"'{letter}'"
        case ("name", word):
            return word
        case ("sum", x, y):
            return f"({written(x)}+{written(y)})"
        case ("pair", x, y):
            return f"({written(x)}.{written(y)})"
        case (kind, x):
            return f"{kind}({written(x)})"


def written_thing(thing):
    if isinstance(thing, tuple):
        return "<" + " ".join(map(written_thing, thing)) + ">"
    return str(thing)


def makings(chance, many):
    yield from EVERY_KIND + EVERY_BUNCH
    words = ["row", "bag", "set", "a", "rows", "abcdefgh", "none", "unit", "sum", "pair", "atom", "name"]
    for _ in range(many):
        making = some_making(chance, words, chance.randint(0, 6))
        if is_making(making):
            yield making


class MakingTextTest(unittest.TestCase):
    def test_by_hand(self):
        for making, text in (
            (NONE, "0"), (UNIT, "1"), (A, "'a'"), (("atom", "z"), "'z'"), (name("tree"), "tree"), (name("a"), "a"),
            (AB, "('a'+'b')"), (("pair", A, UNIT), "('a'.1)"), (("row", A), "row('a')"), (("bag", A), "bag('a')"),
            (("set", NONE), "set(0)"), (NAT, "('a'.row('a'))"), (name("row"), "row"), (("row", name("row")), "row(row)"),
            (("sum", name("bag"), ("bag", name("set"))), "(bag+bag(set))"), (("pair", AB, NAT), "(('a'+'b').('a'.row('a')))"),
            (("row", AB), "row(('a'+'b'))"), (("set", ("row", UNIT)), "set(row(1))"),
        ):
            self.assertEqual(making_text(making), text)
            self.assertEqual(read_making(text), making)

    def test_written_and_read_back(self):
        chance = random.Random(141)
        for making in makings(chance, 400):
            text = making_text(making)
            self.assertEqual(text, written(making))
            self.assertEqual(read_making(text), making)

    def test_no_makings(self):
        for bad in JUNK + [of_parts(41), of_depth(7), ("row",), ("sum", A), ("atom", "ab"), ("name", "A"), ["unit"]]:
            with self.subTest(bad=bad):
                refused(self, BadMaking, making_text, bad)

    def test_parts_and_depth(self):
        for making in (of_parts(40), of_depth(6), of_depth(6, "bag")):
            self.assertEqual(read_making(making_text(making)), making)
        for making in (of_parts(41), of_depth(7), of_depth(7, "set"), of_depth(8), ("pair", A, of_depth(6))):
            refused(self, BadText, read_making, written(making))
        deep = name("a")
        for _ in range(6):
            deep = ("sum", deep, UNIT)
        self.assertEqual(read_making(written(deep)), deep)
        refused(self, BadText, read_making, written(("sum", deep, UNIT)))

    def test_no_texts(self):
        for bad in NO_TEXTS + NO_MAKINGS:
            with self.subTest(bad=bad):
                refused(self, BadText, read_making, bad)

    def test_words_row_bag_set(self):
        for word in BUNCHES:
            self.assertEqual(read_making(word), name(word))
            self.assertEqual(read_making(f"({word}+{word})"), ("sum", name(word), name(word)))
            self.assertEqual(read_making(f"{word}({word})"), (word, name(word)))
            self.assertEqual(read_making(f"{word}s"), name(word + "s"))
        for word in ("none", "unit", "atom", "name", "sum", "pair"):
            self.assertEqual(read_making(word), name(word))
            refused(self, BadText, read_making, f"{word}(0)")

    def test_a_sign_more_less_or_another(self):
        """What is read of any text near by has just that text."""
        good = 0
        for making in (NONE, A, AB, NAT, ("bag", name("row")), ("pair", name("set"), ("set", UNIT)), ("row", ("row", MIXED))):
            for text in changed(written(making)):
                try:
                    found = read_making(text)
                except BadText:
                    continue
                good += 1
                self.assertEqual((written(found), making_text(found)), (text, text))
        self.assertGreater(good, 100)

    def test_all_short_texts(self):
        """Of all short texts just those are read that are written of some making."""
        signs = "01'a(+.)"
        found = {text for size in range(6) for text in map("".join, product(signs, repeat=size)) if self.is_read(text)}
        leaves = ["0", "1", "'a'", "a", "aa", "aaa", "aaaa", "aaaaa"]
        pairs = [f"({x}{sign}{y})" for x in leaves for y in leaves for sign in "+."]
        self.assertEqual(found, {text for text in leaves + pairs if len(text) < 6})

    def is_read(self, text):
        try:
            read_making(text)
        except BadText:
            return False
        return True

    def test_nested_far_deeper(self):
        begin = time.perf_counter()
        for many in (7, 8, 100, 5000, 300000):
            for text in ("(" * many, "row(" * many, "(" * many + "0" + "+1)" * many, "set(" * many + "0" + ")" * many,
                         "(0+" * many + "1" + ")" * many, "'" * many, ")" * many, "0" * many, "(0" * many, "((0+0)." * many):
                refused(self, BadText, read_making, text)
                refused(self, BadText, read_book, "a = " + text)
        refused(self, BadText, read_making, "a" * 300000)
        self.assertLess(time.perf_counter() - begin, 20)


class BookTextTest(unittest.TestCase):
    def test_by_hand(self):
        for book, text in (
            ({"a": NONE}, "a = 0"), ({"b": A, "a": name("b")}, "a = b\nb = 'a'"),
            ({"tree": ("pair", A, ("bag", name("tree")))}, "tree = ('a'.bag(tree))"),
            ({"row": ("row", name("row")), "b": UNIT, "ab": UNIT}, "ab = 1\nb = 1\nrow = row(row)"),
        ):
            self.assertEqual(book_text(book), text)
            self.assertEqual(read_book(text), book)

    def test_written_and_read_back(self):
        chance = random.Random(142)
        books = list(BY_HAND.values()) + [PLAIN] + [some_book(chance, chance.randint(1, 4), 4) for _ in range(150)]
        for book in books:
            text = book_text(book)
            self.assertEqual(text, "\n".join(f"{word} = {written(book[word])}" for word in sorted(book)))
            self.assertEqual(read_book(text), book)
            self.assertEqual(book_text(dict(reversed(list(book.items())))), text)

    def test_unfair_books(self):
        for book in ({"a": name("a")}, {"a": ("row", UNIT)}, {"a": name("b"), "b": ("sum", A, name("a"))}, {"a": ("set", ("bag", A))}):
            self.assertEqual(read_book(book_text(book)), book)

    def test_eight_words(self):
        words = ["a", "bb", "ccc", "dddd", "eeeee", "ffffff", "ggggggg", "hhhhhhhh"]
        book = {word: of_parts(40) for word in words}
        self.assertEqual(read_book(book_text(book)), book)
        refused(self, BadText, read_book, "\n".join(f"{word} = 0" for word in words + ["i"]))
        refused(self, BadText, read_book, "a = " + written(of_parts(41)))

    def test_no_books(self):
        for bad in JUNK + [{"a": name("b")}, {"a": of_parts(41)}, {word: A for word in "abcdefghi"}]:
            with self.subTest(bad=bad):
                self.assertIsNone(refused(self, BadBook, book_text, bad).wrong)

    def test_no_texts(self):
        for bad in NO_TEXTS + NO_BOOKS:
            with self.subTest(bad=bad):
                refused(self, BadText, read_book, bad)
        for bad in NO_MAKINGS:
            with self.subTest(bad=bad):
                refused(self, BadText, read_book, "a = " + bad)

    def test_a_sign_more_less_or_another(self):
        for book in ({"a": A, "b": name("a")}, {"row": ("row", A), "w": ("sum", UNIT, name("row"))}):
            for text in changed(book_text(book)):
                try:
                    found = read_book(text)
                except BadText:
                    continue
                self.assertEqual(book_text(found), text)

    def test_books_are_new(self):
        read_book("a = 0").clear()
        self.assertEqual(read_book("a = 0"), {"a": NONE})


class ThingTextTest(unittest.TestCase):
    def test_by_hand(self):
        for thing, text in (
            ("a", "a"), ("z", "z"), (0, "0"), (1, "1"), ((), "<>"), (("a",), "<a>"), (("a", "b"), "<a b>"), ((0, "a"), "<0 a>"),
            ((1, (0, ())), "<1 <0 <>>>"), (((), ()), "<<> <>>"), ((("a", ()), ("b", ("a",))), "<<a <>> <b <a>>>"), (((),), "<<>>"),
        ):
            self.assertEqual(thing_text(thing), text)
            self.assertEqual(read_thing(text), thing)
            self.assertIs(type(read_thing(text)), type(thing))

    def test_listed_things(self):
        for book, making in ((PLAIN, ("row", MIXED)), (PLAIN, ("bag", MIXED)), (BY_HAND["trees of bags"], name("t")),
                             (BY_HAND["unfolded"], name("w")), (PLAIN, total(A, B, UNIT))):
            for size in range(5):
                for thing in listing(book, making, size):
                    self.assertEqual(thing_text(thing), written_thing(thing))
                    self.assertEqual(read_thing(thing_text(thing)), thing)

    def test_no_things(self):
        for bad in JUNK + [2, -1, "ab", True, False, (True,), ("a", False), (2,), ("A",), ("",), ["a"], ("a", ["b"]), ((), {}),
                           (None,), (0, (1, (2,))), 1.0, (0.0,), b"a", {"a"}]:
            if bad in ((), ((),), ("a",)) and isinstance(bad, tuple):
                continue
            with self.subTest(bad=bad):
                refused(self, BadThing, thing_text, bad)

    def test_no_texts(self):
        for bad in NO_TEXTS + NO_THINGS:
            with self.subTest(bad=bad):
                refused(self, BadText, read_thing, bad)

    def test_all_short_texts(self):
        """Of all short texts just those are read that are written of some thing."""
        things = [0, 1, "a", ()] + [(x,) for x in (0, 1, "a", (), ((),))] + [(x, y) for x in (0, 1, "a") for y in (0, 1, "a")]
        told = {written_thing(thing) for thing in things + [((x,),) for x in (0, 1, "a")]}
        found = set()
        for size in range(6):
            for text in map("".join, product("01a<> ", repeat=size)):
                try:
                    thing = read_thing(text)
                except BadText:
                    continue
                found.add(text)
                self.assertEqual(written_thing(thing), text)
        self.assertEqual({text for text in told if len(text) < 6}, found)

    def test_a_sign_more_less_or_another(self):
        for thing in ("a", (), ((), ("a", "b"), 1), (0, (1, ("b", ())))):
            for text in changed(written_thing(thing)):
                try:
                    found = read_thing(text)
                except BadText:
                    continue
                self.assertEqual((written_thing(found), thing_text(found)), (text, text))

    def test_any_depth(self):
        begin = time.perf_counter()
        many = 200000
        text = "<" * many + ">" * many
        thing = read_thing(text)
        self.assertEqual(thing_text(thing), text)
        text = "<a " * many + "0" + ">" * many
        self.assertEqual(thing_text(read_thing(text)), text)
        text = "<" + "<0 a> " * many + "b>"
        self.assertEqual(thing_text(read_thing(text)), text)
        for bad in ("<" * many, ">" * many, "<" * many + ">" * (many - 1), "<" * many + ">" * (many + 1), " " * many):
            refused(self, BadText, read_thing, bad)
        deep = (None,)
        for _ in range(many):
            deep = ("a", deep)
        refused(self, BadThing, thing_text, deep)
        self.assertLess(time.perf_counter() - begin, 30)


if __name__ == "__main__":
    unittest.main()
