"""The rule that comes, what a deed makes of the modes, and hidden rules: points 8, 9 and 11."""

import itertools
import random
import unittest

from tests.plain import SIGNS, plain_after, plain_modes, some_rules
from tintrow.looking import after, first_rule, piece_of
from tintrow.reading import read_rules, shown_rules

LETTERS = "abcdefghijkl"


def firsts(text, mode, row):
    """The rule that comes at each place of a row, its end too."""
    rules = read_rules(text)
    return [first_rule(rules, mode, row, at) for at in range(len(row) + 1)]


class FirstRule(unittest.TestCase):
    def test_the_first_that_fits_at_each_place(self):
        text = "mode s x\nword 'ab red stay\none 'a red pop\nmany 'bc red stay\nend stay"
        self.assertEqual(firsts(text, 0, "abac cab"), [0, 2, 1, 2, None, 2, 0, 2, 3])

    def test_two_that_both_fit(self):
        self.assertEqual(firsts("mode s x\none 'a red stay\nword 'ab blue stay", 0, "ab"), [0, None, None])
        self.assertEqual(firsts("mode s x\nword 'ab blue stay\none 'a red stay", 0, "ab"), [0, None, None])
        self.assertEqual(firsts("mode s x\nany red stay\nany red stay\nend stay\nend pop", 0, "a"), [0, 2])
        self.assertEqual(firsts("mode s x\nstill pop\nany red stay", 0, "a"), [0, None])
        self.assertEqual(firsts("mode s x\nend pop\nany red stay\nend stay", 0, "a"), [1, 0])

    def test_none_fits(self):
        self.assertEqual(firsts("mode s x\none 'a red stay", 0, "bab"), [None, 0, None, None])
        self.assertEqual(firsts("mode s x\nend stay", 0, "ab"), [None, None, 0])
        self.assertEqual(firsts("mode s x\nany red stay\nstill stay", 0, "ab"), [0, 0, None])

    def test_a_row_without_signs(self):
        self.assertEqual(firsts("mode s x\nany red stay\nend stay", 0, ""), [1])
        self.assertEqual(firsts("mode s x\nany red stay\nstill stay\nword 'a red stay", 0, ""), [None])

    def test_a_mode_without_rules(self):
        self.assertEqual(firsts("mode s x\nmode t x\nany red stay", 0, "ab"), [None, None, None])
        self.assertEqual(firsts("mode s x\nany red stay\nmode t x", 1, ""), [None])

    def test_the_mode_that_is_named(self):
        text = "mode s x\nany red stay\nmode t x\none 'b red stay\none 'a red stay\nmode u x\nend stay"
        self.assertEqual(firsts(text, 0, "ab"), [0, 0, None])
        self.assertEqual(firsts(text, 1, "ab"), [1, 0, None])
        self.assertEqual(firsts(text, 2, "ab"), [None, None, 0])

    def test_the_last_of_twelve(self):
        rows = [f"one '{letter} red stay" for letter in LETTERS]
        self.assertEqual(firsts("mode s x\n" + "\n".join(rows), 0, "la"), [11, 0, None])

    def test_whole_numbers_are_told(self):
        for told in firsts("mode s x\nany red stay\nend stay", 0, "ab"):
            self.assertIs(type(told), int)

    def test_as_the_plain_reading(self):
        chance = random.Random(8)
        for turn in range(150):
            text = some_rules(chance, 2)
            modes = plain_modes(text)
            for number in range(len(modes)):
                row = "".join([chance.choice("ab z") for sign in range(chance.randint(0, 8))])
                expected = [modes[number].first(row, at) for at in range(len(row) + 1)]
                self.assertEqual(firsts(text, number, row), expected, (text, row))


class After(unittest.TestCase):
    TEXT = (
        "mode s x\nany red stay\nany red push t\nany red into u\nany red pop\n"
        "mode t x\nstill stay\nstill push t\nstill into s\nstill pop\nmode u x\nend pop\nend push s\nend into u"
    )

    def check(self, modes, rule, expected):
        rules = read_rules(self.TEXT)
        handed = list(modes)
        told = after(rules, handed, rule)
        self.assertEqual(told, expected)
        self.assertIs(type(told), list)
        self.assertEqual(handed, modes)
        told.append(9)
        self.assertEqual(handed, modes)
        self.assertEqual(after(rules, handed, rule), expected)
        self.assertEqual(shown_rules(rules), self.TEXT)

    def test_one_mode_on(self):
        self.check([0], 0, [0])
        self.check([0], 1, [0, 1])
        self.check([0], 2, [2])
        self.check([0], 3, [0])

    def test_another_mode_alone_on(self):
        self.check([1], 0, [1])
        self.check([1], 1, [1, 1])
        self.check([1], 2, [0])
        self.check([1], 3, [0])
        self.check([2], 0, [0])

    def test_several_modes_on(self):
        self.check([2, 1, 0], 0, [2, 1, 0])
        self.check([2, 1, 0], 1, [2, 1, 0, 1])
        self.check([2, 1, 0], 2, [2, 1, 2])
        self.check([2, 1, 0], 3, [2, 1])
        self.check([0, 1], 0, [0, 1])
        self.check([0, 1], 1, [0, 1, 1])
        self.check([0, 1], 2, [0, 0])
        self.check([0, 1], 3, [0])
        self.check([1, 2], 0, [1])
        self.check([1, 2], 1, [1, 2, 0])
        self.check([1, 2], 2, [1, 2])

    def test_three_thousand_modes_on(self):
        many = [0, 1, 2] * 1000
        self.check(many, 0, many[:-1])
        self.check(many, 1, many + [0])
        self.check(many, 2, many)

    def test_a_told_list_does_not_hang_on_the_one_handed_in(self):
        rules = read_rules(self.TEXT)
        handed = [0, 1]
        told = after(rules, handed, 0)
        handed.append(2)
        handed[0] = 2
        self.assertEqual(told, [0, 1])


class Pieces(unittest.TestCase):
    def check(self, text, seen):
        """Holds the piece of each rule of the start mode against what is told: whether there is one, or its first sign."""
        rules = read_rules(text)
        modes = plain_modes(text)
        self.assertEqual(len(seen), len(modes[0].rules), text)
        for number, wanted in enumerate(seen):
            with self.subTest(text=text, rule=number):
                piece = piece_of(rules, 0, number)
                self.assertEqual(piece is not None, wanted is not False)
                if piece is not None:
                    self.assertIs(type(piece), str)
                    self.assertEqual(set(piece) - set(SIGNS), set())
                    self.assertEqual(modes[0].first(piece, 0), number, piece)
                if isinstance(wanted, str):
                    self.assertEqual(piece[:1], wanted)
        self.assertEqual(shown_rules(rules), text)

    def check_rows(self, rows, seen):
        self.check("mode s x\n" + "\n".join(rows), seen)

    def test_each_pattern_alone(self):
        for pattern in ("word 'ab red", "one 'ab red", "none 'ab red", "many 'ab red", "any red", "still"):
            self.check_rows([pattern + " stay"], [True])
        self.check_rows(["end stay"], [""])

    def test_the_same_rule_twice(self):
        for pattern in ("word 'ab red", "one 'ab red", "none 'ab red", "many 'ab red", "any red", "still", "end"):
            self.check_rows([pattern + " stay", pattern + " pop"], [True, False])
            self.check_rows(["word 'xyz red stay", pattern + " stay", pattern + " pop"], [True, True, False])

    def test_words_that_begin_one_another(self):
        self.check_rows(["word 'a red stay", "word 'ab red stay", "word 'abc red stay"], [True, False, False])
        self.check_rows(["word 'abc red stay", "word 'ab red stay", "word 'a red stay"], [True, True, True])
        self.check_rows(["word 'ab red stay", "word 'a red stay", "word 'abc red stay"], [True, True, False])
        self.check_rows(["word 'b red stay", "word 'ab red stay"], [True, True])
        self.check_rows(["word 'aa red stay", "word 'a red stay", "one 'a red stay"], [True, True, False])

    def test_a_sign_that_only_the_going_on_of_a_word_tells_apart(self):
        self.check_rows(["word 'ab red stay", "word 'ac red stay", "word 'a red stay"], [True, True, True])
        self.check_rows(["word 'ab red stay", "one 'a red stay", "many 'a red stay"], [True, True, False])
        self.check_rows(["word 'ab red stay", "many 'a red stay", "any red stay"], [True, True, True])
        self.check_rows(["none 'a red stay", "word 'ab red stay", "still pop"], [True, True, "a"])
        self.check_rows(["none 'a red stay", "word 'ab red stay", "word 'a red stay", "any red stay"], [True] * 3 + [False])

    def test_a_word_behind_signs(self):
        self.check_rows(["one 'a red stay", "word 'ab red stay", "word 'ba red stay"], [True, False, True])
        self.check_rows(["many 'a red stay", "word 'ab red stay", "word 'ba red stay"], [True, False, True])
        self.check_rows(["none 'a red stay", "word 'ab red stay", "word 'ba red stay"], [True, True, False])
        self.check_rows(["end stay", "word 'ab red stay"], [True, True])
        self.check_rows(["still stay", "word 'ab red stay"], [True, False])

    def test_signs_that_earlier_rules_share_out(self):
        for kind in ("one", "many"):
            for hidden in ("one", "many"):
                rows = [f"{kind} 'ab red stay", f"{kind} 'cd red stay"]
                self.check_rows(rows + [f"{hidden} 'bc red stay"], [True, True, False])
                self.check_rows(rows + [f"{hidden} 'abcd red stay"], [True, True, False])
                self.check_rows(rows + [f"{hidden} 'abcde red stay"], [True, True, "e"])
                self.check_rows(rows + [f"{hidden} 'xad red stay"], [True, True, "x"])
        self.check_rows(["none 'ab red stay", "one 'a red stay", "one 'cab red stay", "many 'abc red stay"], [True, "a", "b", False])
        self.check_rows(["none 'ab red stay", "none 'bc red stay", "none 'a red stay"], [True, "a", "b"])
        self.check_rows(["none 'ab red stay", "none 'bc red stay", "none 'b red stay"], [True, "a", False])
        self.check_rows(["none 'a red stay", "none 'b red stay", "any red stay", "still stay"], [True, "a", False, False])
        self.check_rows(["word 'a red stay", "word 'b red stay", "one 'ab red stay", "many 'bca red stay"], [True, True, False, "c"])

    def test_the_blank(self):
        self.check_rows(["none '_ red stay", "any red stay", "one '_ red stay"], [True, " ", False])
        self.check_rows(["word '__ red stay", "one '_ red stay", "many '_ red stay"], [True, " ", False])

    def test_all_signs_but_one(self):
        for sign in SIGNS:
            others = "".join([other for other in SIGNS if other not in (sign, " ", "_")])
            blank = "" if sign == " " else "_"
            # The low line can be named by no rule, since it stands for a blank: it is left for the rules of all signs.
            expected = sign if sign == "_" else True
            self.check_rows([f"one '{others}{blank} red stay", "any red stay", "still stay"], [True, expected, False])
            if sign != "_":
                named = "_" if sign == " " else sign
                self.check_rows([f"none '{named} red stay", "any red stay", "still stay"], [True, sign, False])
                self.check_rows([f"none '{named} red stay", f"one '{named} red stay", "any red stay"], [True, sign, False])
                self.check_rows([f"one '{named} red stay", f"none '{named} red stay", "still pop"], [sign, True, False])
                self.check_rows([f"one '{others}{blank} red stay", f"none '{others}{blank} red stay"], [True, True])

    def test_none_of_all_signs_but_one(self):
        named = "".join([sign for sign in SIGNS if sign not in " _"])
        self.check_rows([f"none '{named}_ red stay"], ["_"])
        self.check_rows([f"one '{named} red stay", "none '_ red stay", "none 'x red stay", "any red stay"], [True, "_", " ", False])
        without = named.replace("k", "")
        self.check_rows(["one 'k red stay", f"none '{without}_ red stay"], ["k", "_"])

    def test_any_and_still_behind_others(self):
        self.check_rows(["one 'a red stay", "any red stay", "still stay"], [True, True, False])
        self.check_rows(["one 'a red stay", "still stay", "any red stay"], [True, True, False])
        self.check_rows(["still stay", "one 'a red stay", "none 'a red stay", "end stay"], [True, False, False, ""])
        self.check_rows(["one 'ab red stay", "none 'b red stay", "still stay", "any red stay"], [True, True, False, False])

    def test_end_behind_others(self):
        self.check_rows(["any red stay", "still stay", "end stay", "end pop", "end push s"], [True, False, "", False, False])
        self.check_rows(["word 'a red stay", "none 'a red stay", "end stay"], [True, True, ""])

    def test_hidden_by_several_together(self):
        rows = ["word 'a red stay", "one 'b red stay", "many 'c red stay", "none 'abcd red stay"]
        self.check_rows(rows + ["any red stay"], [True, True, True, True, "d"])
        self.check_rows(rows + ["many 'abcd red stay", "still pop"], [True, True, True, True, "d", False])
        self.check_rows(rows + ["word 'dd red stay", "still pop", "any red stay"], [True] * 5 + ["d", False])

    def test_another_mode_hides_nothing(self):
        rules = read_rules("mode s x\nany red stay\nend stay\nmode t x\none 'a red stay\nany red stay\nany red pop\nend pop")
        self.assertEqual(piece_of(rules, 1, 0)[0], "a")
        self.assertNotEqual(piece_of(rules, 1, 1)[0], "a")
        self.assertIsNone(piece_of(rules, 1, 2))
        self.assertEqual(piece_of(rules, 1, 3), "")

    def test_as_all_short_rows_tell(self):
        chance = random.Random(11)
        # Words are of up to three signs; c stands for all signs that no rule names.
        rows = ["".join(signs) for length in range(5) for signs in itertools.product("ab c", repeat=length)]
        told = {True: 0, False: 0}
        for turn in range(120):
            text = some_rules(chance, 1)
            rules = read_rules(text)
            for number, mode in enumerate(plain_modes(text)):
                seen = {mode.first(row, 0) for row in rows}
                for rule in range(len(mode.rules)):
                    piece = piece_of(rules, number, rule)
                    self.assertEqual(piece is not None, rule in seen, (text, number, rule))
                    told[piece is not None] += 1
                    if piece is not None:
                        self.assertEqual(mode.first(piece, 0), rule, (text, number, rule, piece))
        self.assertGreater(min(told.values()), 50)


class PlainAfter(unittest.TestCase):
    def test_each_rule_of_some_modes(self):
        chance = random.Random(9)
        for turn in range(200):
            text = some_rules(chance, 3)
            rules = read_rules(text)
            modes = plain_modes(text)
            on = [chance.randrange(len(modes)) for mode in range(chance.randint(1, 4))]
            for number, rule in enumerate(modes[on[-1]].rules):
                self.assertEqual(after(rules, on, number), plain_after(on, rule), (text, on, number))


if __name__ == "__main__":
    unittest.main()
