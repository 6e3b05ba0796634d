"""A text gone over from its start: point 13."""

import random
import unittest

from tests.plain import plain_modes, plain_text, some_rules
from tintrow.looking import ring_of
from tintrow.reading import read_rules, shown_rules
from tintrow.wholes import begins, colours, fold_marks

REMARKS = (
    "mode start black\nword '/* green push remark open\nmany '0123456789 blue stay\n"
    "mode remark grey\nword '/* green push remark open\nword '*/ green pop close"
)


class Told(unittest.TestCase):
    def check(self, text, rows, all_begins, all_colours, all_marks):
        rules = read_rules(text)
        handed = list(rows)
        with self.subTest(text=text, rows=rows):
            self.assertEqual(begins(rules, handed), all_begins)
            self.assertEqual(colours(rules, handed), [row.split() for row in all_colours])
            self.assertEqual(fold_marks(rules, handed), all_marks)
            self.assertEqual(handed, rows)
            self.assertEqual(shown_rules(rules), text)

    def test_one_row(self):
        self.check(REMARKS, [""], [[0], [0]], [""], [[]])
        self.check(REMARKS, ["a1"], [[0], [0]], ["black blue"], [[]])
        self.check(REMARKS, ["/*1"], [[0], [0, 1]], ["green green grey"], [[(0, "open")]])
        self.check(REMARKS, ["1*/"], [[0], [0]], ["blue black black"], [[]])

    def test_many_rows(self):
        rows = ["1/*", "2", "/*3*/*/4", "", "*/"]
        expected = ["blue green green", "grey", "green green grey green green green green blue", "", "black black"]
        marks = [[(1, "open")], [], [(0, "open"), (3, "close"), (5, "close")], [], []]
        self.check(REMARKS, rows, [[0], [0, 1], [0, 1], [0], [0], [0]], expected, marks)

    def test_modes_pile_up_over_rows(self):
        rows = ["/*", "/*", "/*/*", "*/"]
        all_begins = [[0], [0, 1], [0, 1, 1], [0, 1, 1, 1, 1], [0, 1, 1, 1]]
        marks = [[(0, "open")], [(0, "open")], [(0, "open"), (2, "open")], [(0, "close")]]
        self.check(REMARKS, rows, all_begins, ["green green", "green green", "green " * 4, "green green"], marks)

    def test_rows_without_signs(self):
        text = "mode a x\nend into b open\nmode b y\nend into c close\nmode c z\nany red into a"
        marks = [[(0, "open"), (0, "close")], [(1, "open"), (1, "close")], []]
        self.check(text, ["", "k", ""], [[0], [2], [2], [2]], ["", "red", ""], marks)

    def test_the_start_mode_is_the_first_one(self):
        self.check("mode z x\nmode a y\nany red stay", ["ab"], [[0], [0]], ["x x"], [[]])

    def test_kinds(self):
        rules = read_rules(REMARKS)
        for tell in (begins, colours, fold_marks):
            told = tell(rules, ["/*", "1"])
            self.assertIs(type(told), list)
            self.assertEqual({type(part) for part in told}, {list})
        self.assertIs(type(fold_marks(rules, ["/*"])[0][0]), tuple)


class ToldAnew(unittest.TestCase):
    ROWS = ["1", "/*", "2", "", "*/", "/*3"]

    def test_told_lists_and_those_within_are_new_ones(self):
        rules = read_rules(REMARKS)
        for tell in (begins, colours, fold_marks):
            kept = [list(part) for part in tell(rules, self.ROWS)]
            told = tell(rules, self.ROWS)
            self.assertEqual(len({id(part) for part in told}), len(told))
            for number, part in enumerate(told):
                part.append(7)
                self.assertEqual(told[number + 1 :], kept[number + 1 :])
                self.assertEqual(tell(rules, self.ROWS), kept)
            told.clear()
            self.assertEqual(tell(rules, self.ROWS), kept)

    def test_told_lists_do_not_hang_on_the_rows_handed_in(self):
        rules = read_rules(REMARKS)
        for tell in (begins, colours, fold_marks):
            handed = list(self.ROWS)
            told = tell(rules, handed)
            handed.clear()
            self.assertEqual(told, tell(rules, self.ROWS))


class ByChance(unittest.TestCase):
    def test_as_the_plain_reading(self):
        chance = random.Random(13)
        ended = 0
        while ended < 150:
            text = some_rules(chance, 3)
            rules = read_rules(text)
            if ring_of(rules) is not None:
                continue
            ended += 1
            length = chance.randint(1, 6)
            rows = ["".join([chance.choice("ab c") for sign in range(chance.randint(0, 6))]) for row in range(length)]
            told = (begins(rules, rows), colours(rules, rows), fold_marks(rules, rows))
            self.assertEqual(told, plain_text(plain_modes(text), rows), (text, rows))


if __name__ == "__main__":
    unittest.main()
