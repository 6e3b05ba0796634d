"""A row's tint: point 20."""

import random
import unittest

from tests.plain import plain_tint
from tintrow.pages import read_tint, tint_of

TINTS = [
    ([], ""),
    (["red"], "1 red"),
    (["red"] * 2, "2 red"),
    (["red", "blue"], "1 red, 1 blue"),
    (["red", "red", "blue", "green", "green", "green"], "2 red, 1 blue, 3 green"),
    (["red", "blue", "red"], "1 red, 1 blue, 1 red"),
    (["red", "red", "blue", "red", "red", "red"], "2 red, 1 blue, 3 red"),
    (["r", "re", "red", "re", "r"], "1 r, 1 re, 1 red, 1 re, 1 r"),
    (["a", "a", "aa", "aa", "aaa", "a"], "2 a, 2 aa, 1 aaa, 1 a"),
    (["x"] * 9, "9 x"),
    (["x"] * 10, "10 x"),
    (["x"] * 11 + ["y"] * 100, "11 x, 100 y"),
    (["eightlet"] * 200, "200 eightlet"),
    (["a", "b"] * 3, "1 a, 1 b, 1 a, 1 b, 1 a, 1 b"),
]


class Tint(unittest.TestCase):
    def test_told(self):
        for colours, tint in TINTS:
            with self.subTest(colours=colours):
                handed = list(colours)
                self.assertEqual(tint_of(handed), tint)
                self.assertIs(type(tint_of(handed)), str)
                self.assertEqual(handed, colours)

    def test_read_again(self):
        for colours, tint in TINTS:
            with self.subTest(tint=tint):
                self.assertEqual(read_tint(tint), colours)
                self.assertIs(type(read_tint(tint)), list)

    def test_a_row_without_signs(self):
        self.assertEqual(tint_of([]), "")
        self.assertEqual(read_tint(""), [])

    def test_the_list_is_the_askers(self):
        for tint in ("", "2 red, 1 blue"):
            first = read_tint(tint)
            expected = list(first)
            first.append("strange")
            self.assertEqual(read_tint(tint), expected)

    def test_by_chance(self):
        chance = random.Random(20)
        for turn in range(500):
            names = ["a", "b", "ab", "aa", "green"][: chance.randint(1, 5)]
            colours = []
            for run in range(chance.randint(0, 12)):
                colours += [chance.choice(names)] * chance.choice([1, 2, 3, 9, 10, 11, 40])
            self.assertEqual(tint_of(colours), plain_tint(colours))
            self.assertEqual(read_tint(tint_of(colours)), colours)


if __name__ == "__main__":
    unittest.main()
