"""Words that avoid words: the interface of stage 11, with [2] and [3] as far as they hang on it."""

import random
import time
import unittest
from itertools import product

from countworks.avoiding import avoider_at, avoiders, first_avoider, how_many_avoid, is_ended
from countworks.counts import counts
from countworks.errors import BadNumber, BadWord, Full
from tests.helper import A, AB, ABC, JUNK, PLAIN, refused
from tests.test_rings import NO_LETTERS

# Lists that are no lists of up to six words of the letters a and b, and other things.
NO_WORDS = [bad for bad in JUNK if bad != []] + [
    [""], ["a", ""], ["A"], ["a", "B"], ["c"], ["abc"], ["ab", "ba", "bc"], ["a" * 9], ["ab" * 5], ["a1"], [" "], ["a "],
    [1], [True], [None], [["a"]], [("a",)], [{}], [b"a"], ["a", None], ("a",), ("ab", "ba"), (), "ab", "a", {"a": 1},
    {"a", "b"}, ["aa", "ab", "ba", "bb", "aaa", "bbb", "aba"], ["a"] * 7, [""] * 3, "", 0, 1, ["\u0430"], ["\uff41"],
]
NO_SIZES = [-1, True, False, None, "1", 1.0, (1,), [1], {}]

CASES = [
    ("ab", []), ("a", []), ("ab", ["a"]), ("ab", ["a", "b"]), ("a", ["a"]), ("a", ["aaa"]), ("ab", ["aa"]),
    ("ab", ["aa", "bb"]), ("ab", ["ab"]), ("ab", ["ab", "ba"]), ("ab", ["aa", "bbb", "abab"]), ("ab", ["aba", "ab"]),
    ("ab", ["ab", "aba"]), ("ab", ["babab", "aba", "b"]), ("ab", ["aa", "aa", "aa"]), ("ab", ["aabb", "abba"]),
    ("ab", ["aaa", "bab", "abb", "baab"]), ("ab", ["aa", "ab", "ba", "bb"]), ("abc", ["aa", "bb", "cc"]),
    ("abc", ["ab", "bc", "ca"]), ("xyz", ["xyz", "yx", "zzzz"]), ("abc", ["abcabc", "cab", "bca"]), ("abcd", ["ab", "cd"]),
    ("abcd", ["a", "b", "c", "d"]), ("bkz", ["kb", "zk", "bz", "bbb", "kkk", "zzz"]), ("ab", ["abababab", "babab"]),
    ("abcd", ["abcd", "bcd", "cd", "dd", "ddd", "d"]), ("ab", ["aaaaaaaa", "bbbbbbbb"]), ("ab", ["aab", "aabaab", "baa"]),
    ("ab", ["abaab", "aaba", "bb", "aaaa"]),
]


def texts(letters, size):
    return ["".join(found) for found in product(letters, repeat=size)]


def good(letters, bad, size):
    return [text for text in texts(letters, size) if not any(word in text for word in bad)]


def some_words(chance, letters, many, most):
    return ["".join(chance.choices(letters, k=chance.randint(1, most))) for _ in range(many)]


def ways_on(letters, bad, start, size):
    """How many ways there are to go on from a text by so many letters: only so many last letters matter as words have."""
    kept = max([len(word) for word in bad], default=1) - 1
    many = {start: 1}
    for _ in range(size):
        grown = {}
        for end, ways in many.items():
            for letter in letters:
                text = end + letter
                if not any(text.endswith(word) for word in bad):
                    last = text[max(0, len(text) - kept):]
                    grown[last] = grown.get(last, 0) + ways
        many = grown
    return sum(many.values())


class SmallSizesTest(unittest.TestCase):
    def told(self, letters, bad, size):
        found = good(letters, bad, size)
        with self.subTest(letters=letters, bad=bad, size=size):
            told = avoiders(letters, bad, size)
            self.assertIs(type(told), list)
            self.assertEqual(told, found)
            self.assertEqual(how_many_avoid(letters, bad, size), len(found))
            self.assertEqual(first_avoider(letters, bad, size), found[0] if found else None)
            for number in range(0, len(found), 1 + len(found) // 50):
                self.assertEqual(avoider_at(letters, bad, size, number), found[number])
            if found:
                self.assertEqual(avoider_at(letters, bad, size, len(found) - 1), found[-1])
            for number in (len(found), len(found) + 1, -1, True, False, None, "0", 0.0, [0]):
                refused(self, BadNumber, avoider_at, letters, bad, size, number)

    def test_by_hand(self):
        for letters, bad in CASES:
            for size in range({1: 12, 2: 9, 3: 6, 4: 5}[len(letters)] + 1):
                self.told(letters, bad, size)

    def test_by_chance(self):
        chance = random.Random(111)
        for _ in range(60):
            letters = chance.choice(["ab", "ab", "abc", "bcx", "abcd"])
            bad = some_words(chance, letters, chance.randint(0, 6), chance.randint(1, 4))
            self.told(letters, bad, chance.randint(0, 6))

    def test_size_12(self):
        for letters, bad in (("ab", ["aa"]), ("ab", ["abab", "bbbb"]), ("a", []), ("ab", ["abababab", "ba"])):
            self.told(letters, bad, 12)
        self.assertEqual(len(avoiders("abc", ["aa", "bb", "cc", "ab"], 12)), how_many_avoid("abc", ["aa", "bb", "cc", "ab"], 12))

    def test_the_order_of_words_does_not_matter(self):
        for letters, bad in CASES:
            self.assertEqual(avoiders(letters, bad[::-1], 5), avoiders(letters, bad, 5))
            self.assertEqual(how_many_avoid(letters, bad[::-1] + bad[:6 - len(bad)], 50), how_many_avoid(letters, bad, 50))


class GreatSizesTest(unittest.TestCase):
    def test_known_numbers(self):
        near = [1, 2]
        while len(near) < 61:
            near.append(near[-1] + near[-2])
        for size in range(61):
            self.assertEqual(how_many_avoid("ab", ["aa"], size), near[size])
            self.assertEqual(how_many_avoid("ab", ["ab"], size), size + 1)
            self.assertEqual(how_many_avoid("abcd", [], size), 4 ** size)
            self.assertEqual(how_many_avoid("abc", ["aa", "bb", "cc"], size), 3 * 2 ** (size - 1) if size else 1)

    def test_by_another_road(self):
        chance = random.Random(112)
        for _ in range(25):
            letters = chance.choice(["ab", "abc", "abcd"])
            bad = some_words(chance, letters, chance.randint(1, 6), 8 if len(letters) == 2 else 4)
            for size in (12, 13, 37, 60):
                self.assertEqual(how_many_avoid(letters, bad, size), ways_on(letters, bad, "", size), (letters, bad, size))

    def test_numbers_at_size_60(self):
        for letters, bad in CASES:
            many = how_many_avoid(letters, bad, 60)
            if many == 0:
                self.assertIsNone(first_avoider(letters, bad, 60))
                refused(self, BadNumber, avoider_at, letters, bad, 60, 0)
                continue
            self.assertEqual(first_avoider(letters, bad, 60), avoider_at(letters, bad, 60, 0))
            numbers = sorted({0, 1 % many, many // 3, many // 2, many - 1})
            found = [avoider_at(letters, bad, 60, number) for number in numbers]
            self.assertEqual(found, sorted(set(found)))
            for text, number in zip(found, numbers):
                self.assertEqual((len(text), set(text) <= set(letters)), (60, True))
                self.assertFalse(any(word in text for word in bad))
                self.assertEqual(self.ahead_of(letters, bad, text), number)
            for number in (many, many + 1, -1, True):
                refused(self, BadNumber, avoider_at, letters, bad, 60, number)

    def ahead_of(self, letters, bad, text):
        """How many avoid and are less: those that begin as the text and then have a lesser letter."""
        total = 0
        for at in range(len(text)):
            for letter in letters:
                start = text[:at] + letter
                if letter < text[at] and not any(word in start for word in bad):
                    total += ways_on(letters, bad, start, len(text) - at - 1)
        return total

    def test_in_good_time(self):
        begin = time.perf_counter()
        bad = ["abcdabcd", "bcdabcda", "dddddddd", "acacacac", "bdbdbdbd", "aabbccdd"]
        many = how_many_avoid("abcd", bad, 60)
        self.assertTrue(4 ** 59 < many < 4 ** 60)
        for number in (0, many // 2, many - 1):
            self.assertEqual(len(avoider_at("abcd", bad, 60, number)), 60)
        self.assertIs(is_ended("abcd", bad), False)
        self.assertEqual(first_avoider("abcd", bad, 60)[:9], "aaaaaaaaa")
        refused(self, Full, avoiders, "abcd", bad, 12)
        self.assertLess(time.perf_counter() - begin, 5)


class EndedTest(unittest.TestCase):
    def test_by_hand(self):
        for letters, bad, told in (
            ("a", [], False), ("ab", [], False), ("a", ["a"], True), ("a", ["aaaaaaaa"], True), ("ab", ["a"], False),
            ("ab", ["a", "b"], True), ("ab", ["aa", "bb"], False), ("ab", ["aa", "bb", "ab"], True),
            ("ab", ["aa", "bb", "abab"], True), ("ab", ["aaaaaaaa", "bbbbbbbb", "ab"], True),
            ("ab", ["aaaaaaaa", "bbbbbbbb"], False), ("ab", ["ab", "ba"], False), ("abc", ["a", "b", "c"], True),
            ("abc", ["aa", "ab", "ac", "b", "c"], True), ("abcd", ["a", "b", "c"], False), ("abcd", ["a", "b", "c", "d"], True),
            ("abc", ["aaaaaaaa", "bbbbbbbb", "cccccccc", "ab", "ac", "bc"], True),
            ("abc", ["aaaaaaaa", "bbbbbbbb", "cccccccc", "ab", "ac"], False),
            ("abcd", ["aaaaaaaa", "b", "c", "dddddddd", "ad"], True), ("abcd", ["aaaaaaaa", "b", "c", "dddddddd", "adda"], False),
            ("ab", ["aaaaaaaa", "bbbbbbbb", "abab", "aabb", "abba", "baab"], False),
        ):
            with self.subTest(letters=letters, bad=bad):
                self.assertIs(is_ended(letters, bad), told)

    def test_where_the_last_ones_are_long(self):
        bad = ["aaaaaaaa", "bbbbbbbb", "cccccccc", "ab", "ac", "bc"]
        self.assertIs(is_ended("abc", bad), True)
        self.assertEqual(first_avoider("abc", bad, 21), "c" * 7 + "b" * 7 + "a" * 7)
        self.assertIsNone(first_avoider("abc", bad, 22))
        self.assertEqual([how_many_avoid("abc", bad, size) for size in (20, 21, 22, 60)], [3, 1, 0, 0])

    def test_as_the_counts_end(self):
        chance = random.Random(113)
        ended = 0
        for _ in range(400):
            letters = chance.choice(["a", "ab", "ab", "ab", "abc"])
            bad = some_words(chance, letters, chance.randint(1, 6), chance.randint(1, 4))
            told = is_ended(letters, bad)
            self.assertIs(told, (ways_on(letters, bad, "", 60) == 0), (letters, bad))
            ended += told
        self.assertGreater(ended, 50)
        self.assertLess(ended, 350)


class RefusalsTest(unittest.TestCase):
    ASKS = [
        (avoiders, (3,)), (how_many_avoid, (3,)), (is_ended, ()), (first_avoider, (3,)), (avoider_at, (3, 0)),
    ]

    def test_no_letters(self):
        for bad in NO_LETTERS:
            for ask, hand in self.ASKS:
                for words in ([], None, ["a"], ["zz"]):
                    with self.subTest(ask=ask.__name__, bad=bad):
                        refused(self, BadWord, ask, bad, words, *hand)

    def test_no_words(self):
        for bad in NO_WORDS:
            for ask, hand in self.ASKS:
                with self.subTest(ask=ask.__name__, bad=bad):
                    refused(self, BadWord, ask, "ab", bad, *hand)
                    refused(self, BadWord, ask, "ab", bad, *[None] * len(hand))

    def test_six_words_of_eight_letters(self):
        six = ["aaaaaaaa", "bbbbbbbb", "aaaabbbb", "bbbbaaaa", "abababab", "babababa"]
        for ask, hand in self.ASKS:
            ask("ab", six, *hand)
            refused(self, BadWord, ask, "ab", six + ["aaaaaaaa"], *hand)
            refused(self, BadWord, ask, "ab", six[:5] + ["aaaaaaaab"], *hand)

    def test_sizes(self):
        for ask, most, rest in ((avoiders, 12, ()), (how_many_avoid, 60, ()), (first_avoider, 60, ()), (avoider_at, 60, (0,))):
            for size in (0, 1, most):
                ask("ab", ["aa"], size, *rest)
            for bad in NO_SIZES + [most + 1, most + 2, 1000]:
                with self.subTest(ask=ask.__name__, bad=bad):
                    refused(self, BadNumber, ask, "ab", ["aa"], bad, *rest)
                    refused(self, BadNumber, ask, "abcd", [], bad, *rest)
        self.assertEqual(avoiders("ab", ["a", "b"], 0), [""])
        self.assertEqual((first_avoider("ab", [], 0), avoider_at("ab", [], 0, 0), how_many_avoid("ab", [], 0)), ("", "", 1))

    def test_full(self):
        for letters, bad, size in (("ab", [], 12), ("abc", [], 8), ("abcd", [], 6), ("abc", ["aa"], 9), ("abcd", ["a"], 12)):
            many = how_many_avoid(letters, bad, size)
            self.assertGreater(many, 3000)
            refused(self, Full, avoiders, letters, bad, size)
        for letters, bad, size in (("ab", [], 11), ("abc", [], 7), ("abcd", [], 5), ("ab", ["aaaaaaa"], 11)):
            self.assertEqual(len(avoiders(letters, bad, size)), how_many_avoid(letters, bad, size))

    def test_just_3000(self):
        self.assertEqual(len(avoiders("ab", ["babbb", "bbabbab"], 12)), 3000)
        bad = ["bbbbba", "abbbba", "aabbabbb", "abbabbaa", "babbbabb"]
        self.assertEqual((how_many_avoid("ab", bad, 12), len(good("ab", bad, 12))), (3001, 3001))
        refused(self, Full, avoiders, "ab", bad, 12)

    def test_what_is_handed_in_stays(self):
        bad = ["ab", "ba", "ab"]
        for ask, hand in self.ASKS:
            ask("ab", bad, *hand)
        self.assertEqual(bad, ["ab", "ba", "ab"])
        told = avoiders("ab", bad, 3)
        avoiders("ab", bad, 3).clear()
        bad.append("bb")
        self.assertEqual(told, ["aaa", "bbb"])
        self.assertEqual(avoiders("ab", bad, 3), ["aaa"])


class RowsTest(unittest.TestCase):
    def test_texts_that_avoid_nothing_are_rows_of_letters(self):
        for letters, making in (("a", A), ("ab", AB), ("abc", ABC)):
            self.assertEqual([how_many_avoid(letters, [], size) for size in range(41)], counts(PLAIN, ("row", making), 40))


if __name__ == "__main__":
    unittest.main()
