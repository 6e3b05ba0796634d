"""A row gone over: point 12."""

import random
import unittest

from tests.plain import Endless, plain_modes, plain_row, some_rules
from tintrow.going import gone_over
from tintrow.looking import ring_of
from tintrow.reading import read_rules, shown_rules

REMARKS = (
    "mode start black\nword '/* green push remark open\nmany '0123456789 blue stay\nword '// grey into line\n"
    "mode remark green\nword '/* green push remark open\nword '*/ green pop close\nmode line grey\nend into start"
)


class Told(unittest.TestCase):
    def check(self, text, on, row, colours, behind, folds):
        rules = read_rules(text)
        handed = list(on)
        with self.subTest(on=on, row=row):
            told = gone_over(rules, handed, row)
            self.assertIs(type(told), tuple)
            self.assertEqual(told, (colours.split(), behind, folds))
            self.assertEqual([type(part) for part in told], [list, list, list])
            self.assertEqual(handed, on)
            self.assertEqual(shown_rules(rules), text)

    def test_colours(self):
        self.check(REMARKS, [0], "a 12", "black black blue blue", [0], [])
        self.check(REMARKS, [0], "1", "blue", [0], [])
        self.check(REMARKS, [0], "/", "black", [0], [])

    def test_a_rule_that_eats_several_signs(self):
        self.check(REMARKS, [0], "/*", "green green", [0, 1], [(0, "open")])
        self.check(REMARKS, [0], "123a45", "blue blue blue black blue blue", [0], [])

    def test_what_a_rule_eats_has_its_own_colour(self):
        text = "mode a black\nword 'ab red push b\nmode b white\none 'x blue pop"
        self.check(text, [0], "aabcxa", "black red red white blue black", [0], [])

    def test_what_no_rule_eats_has_the_colour_of_the_mode_on_top(self):
        self.check(REMARKS, [1], "12", "green green", [1], [])
        self.check(REMARKS, [0, 1], "12", "green green", [0, 1], [])
        self.check(REMARKS, [1, 0], "12x", "blue blue black", [1, 0], [])
        self.check("mode a black", [0], "a b", "black black black", [0], [])

    def test_modes_behind(self):
        self.check(REMARKS, [0], "/*/*", "green green green green", [0, 1, 1], [(0, "open"), (2, "open")])
        self.check(REMARKS, [0, 1, 1], "*/", "green green", [0, 1], [(0, "close")])
        self.check(REMARKS, [1], "*/1", "green green blue", [0], [(0, "close")])
        self.check(REMARKS, [1, 1, 0, 1], "", "", [1, 1, 0, 1], [])

    def test_fold_marks_in_their_order(self):
        marks = [(1, "open"), (3, "close"), (6, "open"), (8, "open")]
        self.check(REMARKS, [0], "1/**/2/*/*3", "blue " + "green " * 4 + "blue" + " green" * 5, [0, 1, 1], marks)

    def test_fold_marks_of_each_pattern(self):
        text = (
            "mode a black\nword 'ab red stay open\none 'a red stay close\nnone 'abcde_ red stay open\n"
            "many 'b_ red stay close\none 'c red push b\nany red stay\nmode b white\nstill pop open\nend pop close"
        )
        folds = [(0, "open"), (2, "close"), (3, "open"), (4, "close"), (7, "open"), (8, "close")]
        self.check(text, [0], "abaxb cc", "red " * 8, [0], folds)

    def test_a_row_without_signs(self):
        self.check(REMARKS, [0], "", "", [0], [])
        self.check(REMARKS, [0, 1], "", "", [0, 1], [])
        self.check(REMARKS, [2], "", "", [0], [])
        self.check("mode a x\nstill push b open\nmode b x\nany red pop", [0], "", "", [0], [])

    def test_rules_at_the_end(self):
        self.check(REMARKS, [0], "1//2", "blue grey grey grey", [0], [])
        self.check(REMARKS, [0, 2], "1", "grey", [0, 0], [])
        text = "mode a x\nend push b open\nmode b x\nend into c close\nmode c x\nany red stay"
        self.check(text, [0], "", "", [0, 2], [(0, "open"), (0, "close")])
        self.check(text, [0], "zz", "x x", [0, 2], [(2, "open"), (2, "close")])
        self.check(text, [0, 2], "z", "red", [0, 2], [])

    def test_the_end_pops_several(self):
        text = "mode a x\nmode b x\nend pop close"
        self.check(text, [0, 1, 1, 1], "z", "x", [0], [(1, "close")] * 3)
        self.check(text, [1], "", "", [0], [(0, "close")])
        self.check(text, [1, 1], "", "", [0], [(0, "close")] * 2)

    def test_several_that_eat_nothing_at_one_place(self):
        text = (
            "mode a x\none 'a red stay\nstill push b open\nmode b x\nstill into c open\nmode c x\nstill push d close\n"
            "mode d y\nany blue pop"
        )
        folds = [(0, "open"), (0, "open"), (0, "close")]
        self.check(text, [0], "z", "blue", [0, 2], folds)
        self.check(text, [0], "az", "red blue", [0, 2], [(1, "open"), (1, "open"), (1, "close")])
        self.check(text, [0], "zz", "blue blue", [0, 2], folds + [(1, "close")])

    def test_a_place_where_nothing_was_eaten_is_looked_at_again(self):
        text = "mode a x\nnone 'b red stay\nstill push b\nmode b y\none 'b blue stay\nstill pop"
        self.check(text, [0], "abba", "red blue blue red", [0], [])

    def test_a_pop_where_one_mode_alone_is_on(self):
        text = "mode a x\none 'p red pop\nmode b y\none 'p blue pop"
        self.check(text, [1], "ppz", "blue red x", [0], [])
        self.check(text, [1, 1], "ppz", "blue blue x", [0], [])
        self.check(text, [0, 1], "zpz", "y blue x", [0], [])
        self.check(text, [1, 0], "zpz", "x red y", [1], [])

    def test_the_modes_change_at_once(self):
        text = "mode a x\nany red into b\nmode b x\nany blue push a"
        self.check(text, [0], "abcd", "red blue red blue", [1, 1, 0], [])

    def test_the_last_place_is_not_gone_over_as_a_sign(self):
        self.check("mode a x\nany red push a", [0], "ab", "red red", [0, 0, 0], [])
        self.check("mode a x\nmany 'ab red stay open", [0], "ab", "red red", [0], [(0, "open")])


class ToldAnew(unittest.TestCase):
    def test_told_lists_are_the_askers(self):
        rules = read_rules(REMARKS)
        on = [0, 1]
        first = gone_over(rules, on, "*/1/*")
        kept = (list(first[0]), list(first[1]), list(first[2]))
        for part in first:
            part.append("x")
        self.assertEqual(on, [0, 1])
        self.assertEqual(gone_over(rules, on, "*/1/*"), kept)

    def test_told_lists_do_not_hang_on_the_one_handed_in(self):
        rules = read_rules(REMARKS)
        for row in ("", "a", "/*"):
            on = [0, 1]
            told = gone_over(rules, on, row)
            kept = list(told[1])
            on.append(2)
            on[0] = 1
            self.assertEqual(told[1], kept)


class ByChance(unittest.TestCase):
    def test_as_the_plain_reading(self):
        chance = random.Random(12)
        ended = 0
        while ended < 250:
            text = some_rules(chance, 3)
            rules = read_rules(text)
            if ring_of(rules) is not None:
                continue
            ended += 1
            modes = plain_modes(text)
            for turn in range(12):
                on = [chance.randrange(len(modes)) for mode in range(chance.randint(1, 4))]
                row = "".join([chance.choice("ab c") for sign in range(chance.randint(0, 12))])
                try:
                    expected = plain_row(modes, on, row)
                except Endless:
                    self.fail((text, on, row))
                self.assertEqual(gone_over(rules, on, row), expected, (text, on, row))


if __name__ == "__main__":
    unittest.main()
