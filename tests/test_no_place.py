"""Rows and places that there are not: points 14 and 16."""

import unittest

from tests.plain import Watched
from tintrow.errors import NoPlace, TintError
from tintrow.reading import read_rules
from tintrow.tinted import Tinted

RULES = "mode start black\nword '/* green push remark open\nmode remark grey\nword '*/ green pop close"
ROWS = ["ab/*", "", "c*/d", "ef"]
MANY = len(ROWS)
NO_ROWS = [-1, -2, -MANY, -MANY - 1, -1000, MANY, MANY + 1, 1000]
PLACES = [(row, at) for row, signs in enumerate(ROWS) for at in range(len(signs) + 1)]
NO_PLACES = [(row, at) for row in NO_ROWS for at in (0, 1, -1)] + [
    (row, at) for row, signs in enumerate(ROWS) for at in (-1, -len(signs) - 1, -900, len(signs) + 1, len(signs) + 2, 900)
]


class Base(unittest.TestCase):
    def setUp(self):
        self.watched = Watched(self, Tinted(read_rules(RULES), list(ROWS)), RULES, ROWS)
        self.tinted = self.watched.tinted

    def refused(self, deed, *handed):
        with self.subTest(deed=deed.__name__, handed=handed):
            with self.assertRaises(NoPlace) as taken:
                deed(*handed)
            self.assertIsInstance(taken.exception, TintError)
            self.watched.check()

    def tearDown(self):
        # Behind all refusals the text goes on as if there had been none.
        self.watched.check()
        self.assertEqual(self.watched.change(0, 1, ["ab"]), 3)
        self.assertEqual(self.watched.change(MANY, 0, ["/*"]), 1)


class Asked(Base):
    def test_rows_that_there_are_not(self):
        for row in NO_ROWS:
            for tell in (self.tinted.begin, self.tinted.colours, self.tinted.marks):
                self.refused(tell, row)

    def test_the_first_and_the_last_row_are_there(self):
        for row in (0, MANY - 1):
            for tell in (self.tinted.begin, self.tinted.colours, self.tinted.marks):
                self.assertIs(type(tell(row)), list)

    def test_the_rows_behind_a_change_are_there(self):
        tinted = Tinted(read_rules(RULES), ["a"])
        tinted.change(1, 0, ["b", "c"])
        self.assertEqual(tinted.begin(2), [0])
        tinted.change(0, 2, [])
        for row in (1, 2, -1):
            for tell in (tinted.begin, tinted.colours, tinted.marks):
                with self.assertRaises(NoPlace):
                    tell(row)


class Changed(Base):
    def test_rows_that_there_are_not(self):
        for row in NO_ROWS:
            for many in (1, 2, -1, MANY, 1000):
                for new in ([], ["x"], ["x", "y"]):
                    self.refused(self.tinted.change, row, many, new)
        for row in NO_ROWS:
            if row != MANY:
                for new in ([], ["x"]):
                    self.refused(self.tinted.change, row, 0, new)

    def test_a_row_that_is_how_many_there_are_where_none_is_taken_out(self):
        self.assertEqual(self.watched.change(MANY, 0, []), 0)
        other = Watched(self, Tinted(read_rules(RULES), list(ROWS)), RULES, ROWS)
        self.assertEqual(other.change(MANY, 0, ["x", "y"]), 2)

    def test_fewer_than_none_taken_out(self):
        for row in range(MANY + 1):
            for many in (-1, -2, -MANY, -1000):
                for new in ([], ["x"], ["x"] * 3):
                    self.refused(self.tinted.change, row, many, new)

    def test_more_taken_out_than_there_are(self):
        for row in range(MANY + 1):
            for many in (MANY - row + 1, MANY - row + 2, 1000):
                for new in ([], ["x"], ROWS[row:] + ["x"]):
                    self.refused(self.tinted.change, row, many, new)

    def test_as_many_as_there_are(self):
        for row in range(MANY):
            other = Watched(self, Tinted(read_rules(RULES), list(ROWS)), RULES, ROWS)
            other.change(row, MANY - row, ["x"])

    def test_no_row_left(self):
        self.refused(self.tinted.change, 0, MANY, [])
        tinted = Tinted(read_rules(RULES), [""])
        with self.assertRaises(NoPlace):
            tinted.change(0, 1, [])
        self.assertEqual(tinted.rows(), [""])
        self.assertEqual(tinted.change(0, 1, ["a"]), 1)

    def test_one_row_left(self):
        for row in (0, 1):
            other = Watched(self, Tinted(read_rules(RULES), list(ROWS)), RULES, ROWS)
            other.change(row, MANY - 1, [])
            self.assertEqual(len(other.rows), 1)


class PutCutAndPart(Base):
    def test_put_at_no_place(self):
        for row, at in NO_PLACES:
            for text in ("", "x", "\n"):
                self.refused(self.tinted.put, row, at, text)

    def test_cut_and_part_from_no_place(self):
        for row, at in NO_PLACES:
            for row2, at2 in ((0, 0), (MANY - 1, 2), (row, at)):
                self.refused(self.tinted.cut, row, at, row2, at2)
                self.refused(self.tinted.part, row, at, row2, at2)

    def test_cut_and_part_up_to_no_place(self):
        for row2, at2 in NO_PLACES:
            for row, at in ((0, 0), (2, 1), (MANY - 1, 2)):
                self.refused(self.tinted.cut, row, at, row2, at2)
                self.refused(self.tinted.part, row, at, row2, at2)

    def test_a_first_place_behind_the_second_one(self):
        for number, second in enumerate(PLACES):
            for first in PLACES[number + 1 :]:
                self.refused(self.tinted.cut, first[0], first[1], second[0], second[1])
                self.refused(self.tinted.part, first[0], first[1], second[0], second[1])

    def test_each_place_is_there(self):
        for row, at in PLACES:
            self.assertEqual(self.watched.put(row, at, ""), 0)
            self.assertEqual(self.watched.cut(row, at, row, at), 0)
            self.assertEqual(self.watched.part(row, at, row, at), "")


if __name__ == "__main__":
    unittest.main()
