"""Folds: point 17."""

import copy
import random
import unittest

from tests.plain import plain_depths, plain_fold_of, plain_folds
from tintrow.errors import NoPlace, TintError
from tintrow.folds import depths, fold_of, folds

O = "open"
C = "close"


class Base(unittest.TestCase):
    def told(self, rows_marks, all_folds, all_depths, all_ends):
        """Holds all three functions against what is expected, and the list handed in against what it was."""
        handed = copy.deepcopy(rows_marks)
        with self.subTest(rows_marks=rows_marks):
            self.assertEqual(folds(handed), all_folds)
            self.assertEqual(depths(handed), all_depths)
            self.assertEqual([fold_of(handed, row) for row in range(len(handed))], all_ends)
            self.assertEqual(handed, rows_marks)


class Folds(Base):
    def test_rows_without_marks(self):
        self.told([[]], [], [0], [None])
        self.told([[], [], []], [], [0, 0, 0], [None] * 3)

    def test_one_that_closes_in_its_row(self):
        self.told([[(0, O), (4, C)]], [(0, 0, (0, 4))], [0], [None])
        self.told([[], [(2, O), (7, C)], []], [(1, 2, (1, 7))], [0, 0, 0], [None] * 3)

    def test_one_that_closes_in_a_later_row(self):
        self.told([[(3, O)], [(1, C)]], [(0, 3, (1, 1))], [0, 1], [1, None])
        self.told([[(3, O)], [], [], [(0, C)], []], [(0, 3, (3, 0))], [0, 1, 1, 1, 0], [3, None, None, None, None])

    def test_one_that_never_closes(self):
        self.told([[(0, O)]], [(0, 0, None)], [0], [None])
        self.told([[(0, O)], [(2, O)], []], [(0, 0, None), (1, 2, None)], [0, 1, 2], [None] * 3)

    def test_a_close_one_where_none_waits(self):
        self.told([[(0, C)]], [], [0], [None])
        self.told([[(0, C), (1, C)], [(5, C)], []], [], [0, 0, 0], [None] * 3)
        # Those that closed nothing are not owed: the open one behind them waits.
        self.told([[(0, C), (1, C), (2, O)], [(0, C)]], [(0, 2, (1, 0))], [0, 1], [1, None])
        self.told([[(0, O), (1, C), (2, C)], [(3, O)], [(0, C), (1, C)]], [(0, 0, (0, 1)), (1, 3, (2, 0))], [0, 0, 1],
                  [None, 2, None])

    def test_the_one_that_came_last_closes_first(self):
        self.told(
            [[(0, O)], [(1, O)], [(2, C)], [(3, C)]],
            [(0, 0, (3, 3)), (1, 1, (2, 2))],
            [0, 1, 2, 1],
            [3, 2, None, None],
        )

    def test_the_outer_one_never_closes_and_the_inner_one_does(self):
        self.told([[(0, O)], [(1, O)], [(2, C)]], [(0, 0, None), (1, 1, (2, 2))], [0, 1, 2], [None, 2, None])

    def test_one_closed_and_another_one_at_once(self):
        self.told([[(0, O)], [(0, C), (0, O)], [(1, C)]], [(0, 0, (1, 0)), (1, 0, (2, 1))], [0, 1, 1], [1, 2, None])

    def test_several_at_one_place(self):
        self.told(
            [[(4, O), (4, O), (4, O)], [(0, C), (0, C)]],
            [(0, 4, None), (0, 4, (1, 0)), (0, 4, (1, 0))],
            [0, 3],
            [1, None],
        )
        self.told([[(0, O), (0, C), (0, O), (0, C)]], [(0, 0, (0, 0)), (0, 0, (0, 0))], [0], [None])
        self.told([[(2, C), (2, O), (2, O), (2, C)], [(1, C)]], [(0, 2, (1, 1)), (0, 2, (0, 2))], [0, 1], [1, None])

    def test_the_end_is_a_tuple_and_the_fold_too(self):
        told = folds([[(0, O), (1, O)], [(2, C)]])
        self.assertIs(type(told), list)
        self.assertEqual([type(fold) for fold in told], [tuple, tuple])
        self.assertIs(type(told[1][2]), tuple)
        self.assertIsNone(told[0][2])


class FoldOf(Base):
    def test_the_first_one_that_closes_in_a_later_row(self):
        # Of three, the first one closes in its own row, the second one later than the third one.
        self.told(
            [[(0, O), (1, C), (2, O), (3, O)], [(0, C)], [], [(0, C)]],
            [(0, 0, (0, 1)), (0, 2, (3, 0)), (0, 3, (1, 0))],
            [0, 2, 1, 1],
            [3, None, None, None],
        )

    def test_not_that_of_one_that_never_closes(self):
        self.told([[(0, O), (1, O)], [], [(0, C)]], [(0, 0, None), (0, 1, (2, 0))], [0, 2, 2], [2, None, None])

    def test_none_of_one_that_was_opened_ahead(self):
        self.assertIsNone(fold_of([[(0, O)], [(1, O), (2, C)], [(0, C)]], 1))

    def test_it_ends_in_a_row_where_others_begin(self):
        self.told([[(0, O)], [(0, O), (1, C), (2, C), (3, O)], [(0, C)]],
                  [(0, 0, (1, 2)), (1, 0, (1, 1)), (1, 3, (2, 0))], [0, 1, 1], [1, 2, None])

    def test_rows_that_there_are_not(self):
        for rows_marks in ([[]], [[(0, O)], [(0, C)]], [[(0, O)]] * 5):
            many = len(rows_marks)
            handed = copy.deepcopy(rows_marks)
            for row in (-1, -2, -many, -many - 1, -1000, many, many + 1, 1000):
                with self.subTest(rows_marks=rows_marks, row=row):
                    with self.assertRaises(NoPlace) as taken:
                        fold_of(handed, row)
                    self.assertIsInstance(taken.exception, TintError)
            self.assertEqual(handed, rows_marks)

    def test_kinds(self):
        self.assertIs(type(fold_of([[(0, O)], [(0, C)]], 0)), int)
        self.assertEqual([type(depth) for depth in depths([[(0, O)], []])], [int, int])
        self.assertIs(type(depths([[]])), list)


class Own(unittest.TestCase):
    def test_what_is_told_is_the_askers(self):
        marks = [[(0, O)], [(0, C)]]
        for tell in (folds, depths):
            first = tell(marks)
            expected = list(first)
            first.clear()
            self.assertEqual(tell(marks), expected)
            second = tell(marks)
            second.append("strange")
            self.assertEqual(tell(marks), expected)
        self.assertEqual(marks, [[(0, O)], [(0, C)]])

    def test_what_was_handed_in_may_be_changed(self):
        marks = [[(0, O)], [(0, C)]]
        told = folds(marks)
        deep = depths(marks)
        marks[1].clear()
        marks.insert(0, [])
        self.assertEqual(told, [(0, 0, (1, 0))])
        self.assertEqual(deep, [0, 1])


class ByChance(Base):
    def test_as_the_plain_reading(self):
        chance = random.Random(17)
        for turn in range(1500):
            marks = []
            for row in range(chance.randint(1, 7)):
                places = sorted([chance.randint(0, 5) for mark in range(chance.randint(0, 4))])
                marks.append([(place, chance.choice([O, C])) for place in places])
            ends = [plain_fold_of(marks, row) for row in range(len(marks))]
            self.told(marks, plain_folds(marks), plain_depths(marks), ends)


if __name__ == "__main__":
    unittest.main()
