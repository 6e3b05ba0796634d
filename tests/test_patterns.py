"""The patterns: point 4."""

import itertools
import re
import unittest

from tintrow.patterns import Any, End, Many, One, Pattern, Still, Without, Word

EATING = [Word("a"), One("a"), Without("a"), Many("a"), Any()]
IDLE = [Still(), End()]


def all_eaten(pattern, row):
    """What a pattern eats at each place of a row, its end too."""
    return [pattern.eaten(row, at) for at in range(len(row) + 1)]


class EachPattern(unittest.TestCase):
    def check(self, pattern, row, expected):
        with self.subTest(pattern=pattern, row=row):
            told = all_eaten(pattern, row)
            self.assertEqual(told, expected)
            for number in told:
                self.assertIn(type(number), (int, type(None)))

    def test_word(self):
        self.check(Word("ab"), "", [None])
        self.check(Word("ab"), "abxab", [2, None, None, 2, None, None])
        self.check(Word("aa"), "aaaa", [2, 2, 2, None, None])
        self.check(Word("a"), "ba", [None, 1, None])
        self.check(Word("a b"), "a ba b", [3, None, None, 3, None, None, None])
        self.check(Word(" "), "a  b", [None, 1, 1, None, None])
        self.check(Word("a.c"), "abca.c", [None, None, None, 3, None, None, None])

    def test_word_that_the_end_cuts_off(self):
        self.check(Word("abc"), "ab", [None, None, None])
        self.check(Word("abc"), "xabcab", [None, 3, None, None, None, None, None])

    def test_word_of_the_whole_row(self):
        self.check(Word("abc"), "abc", [3, None, None, None])

    def test_one(self):
        self.check(One("ab"), "", [None])
        self.check(One("ab"), "abcab", [1, 1, None, 1, 1, None])
        self.check(One("a"), "aaa", [1, 1, 1, None])
        self.check(One("a a"), "ba c", [None, 1, 1, None, None])

    def test_without(self):
        self.check(Without("ab"), "", [None])
        self.check(Without("ab"), "abcab", [None, None, 1, None, None, None])
        self.check(Without("a"), "bbb", [1, 1, 1, None])
        self.check(Without("a a"), "ba c", [1, None, None, 1, None])

    def test_many(self):
        self.check(Many("ab"), "", [None])
        self.check(Many("ab"), "abcab", [2, 1, None, 2, 1, None])
        self.check(Many("a"), "aaaa", [4, 3, 2, 1, None])
        self.check(Many("aba"), "xabba", [None, 4, 3, 2, 1, None])
        self.check(Many("a a"), "ba a c", [None, 4, 3, 2, 1, None, None])
        self.check(Many("ab"), "cdc", [None, None, None, None])

    def test_any(self):
        self.check(Any(), "", [None])
        self.check(Any(), "a", [1, None])
        self.check(Any(), " ~'", [1, 1, 1, None])

    def test_still(self):
        self.check(Still(), "", [None])
        self.check(Still(), "a", [0, None])
        self.check(Still(), "ab ", [0, 0, 0, None])

    def test_end(self):
        self.check(End(), "", [0])
        self.check(End(), "a", [None, 0])
        self.check(End(), "ab ", [None, None, None, 0])

    def test_a_row_of_two_hundred_signs(self):
        self.check(Many("a"), "a" * 200, list(range(200, 0, -1)) + [None])
        self.check(Word("a" * 200), "a" * 200, [200] + [None] * 200)


class AgainstPlainExpressions(unittest.TestCase):
    """Each pattern beside a regular expression that says the same, on all short rows."""

    def check(self, pattern, expression):
        compiled = re.compile(expression)
        for length in range(5):
            for signs in itertools.product("ab _", repeat=length):
                row = "".join(signs)
                for at in range(length + 1):
                    fit = compiled.match(row, at)
                    expected = None if fit is None else fit.end() - at
                    self.assertEqual(pattern.eaten(row, at), expected, (expression, row, at))

    def test_all(self):
        for signs in ("a", "ab", "aa", "b a", " ", "abab", "_", "ab _"):
            self.check(Word(signs), re.escape(signs))
            self.check(One(signs), "[" + re.escape(signs) + "]")
            self.check(Without(signs), "[^" + re.escape(signs) + "]")
            self.check(Many(signs), "[" + re.escape(signs) + "]+")
        self.check(Any(), ".")
        self.check(Still(), "(?=.)")
        self.check(End(), r"\Z")


class Kinds(unittest.TestCase):
    def test_each_is_a_pattern(self):
        for pattern in EATING + IDLE:
            self.assertIsInstance(pattern, Pattern)

    def test_none_is_another_one(self):
        classes = [Word, One, Without, Many, Any, Still, End]
        for pattern, own in zip(EATING + IDLE, classes):
            self.assertEqual([kind for kind in classes if isinstance(pattern, kind)], [own])

    def test_eats(self):
        for pattern in EATING:
            self.assertIs(pattern.eats(), True)
        for pattern in IDLE:
            self.assertIs(pattern.eats(), False)

    def test_asking_changes_nothing(self):
        for pattern in EATING + IDLE:
            first = all_eaten(pattern, "aab a")
            all_eaten(pattern, "b")
            pattern.eats()
            self.assertEqual(all_eaten(pattern, "aab a"), first)


if __name__ == "__main__":
    unittest.main()
