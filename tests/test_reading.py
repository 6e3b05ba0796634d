"""Rules read and shown: points 5 and 6."""

import unittest

from tintrow.patterns import Any, End, Many, One, Still, Without, Word
from tintrow.reading import read_rules, shown_rules
from tintrow.rules import Mode, Rule, Rules

PATTERNS = [
    ("word 'ab", Word),
    ("one 'ab", One),
    ("none 'ab", Without),
    ("many 'ab", Many),
    ("any", Any),
    ("still", Still),
    ("end", End),
]
DEEDS = [("stay", None), ("push", "later"), ("pop", None), ("into", "start")]
FOLDS = ["", "open", "close"]
NUMBERS = {None: None, "start": 0, "later": 1}
LETTERS = "abcdefghijklmnopqrstuvwxyz"


def rule_of(row):
    """The rule that a row tells as the only one of a start mode."""
    return read_rules(f"mode start black\n{row}\nmode later grey").modes[0].rules[0]


def fields_of(rule):
    return (rule.colour, rule.deed, rule.goal, rule.fold)


class Told(unittest.TestCase):
    def test_each_pattern_with_each_deed_and_each_fold_mark(self):
        for words, kind in PATTERNS:
            for deed, goal in DEEDS:
                for fold in FOLDS:
                    eats = kind not in (Still, End)
                    row = " ".join([w for w in (words, "red" if eats else "", deed, goal, fold) if w])
                    with self.subTest(row=row):
                        rule = rule_of(row)
                        self.assertIsInstance(rule, Rule)
                        self.assertIsInstance(rule.pattern, kind)
                        expected = ("red" if eats else "", deed, NUMBERS[goal], fold)
                        self.assertEqual(fields_of(rule), expected)
                        text = f"mode start black\n{row}\nmode later grey"
                        self.assertEqual(shown_rules(read_rules(text)), text)

    def test_the_signs_of_patterns(self):
        self.assertEqual(rule_of("word 'if red stay").pattern.eaten("if", 0), 2)
        self.assertEqual(rule_of("word 'if red stay").pattern.eaten("i", 0), None)
        self.assertEqual(rule_of("one 'if red stay").pattern.eaten("fi", 0), 1)
        self.assertEqual(rule_of("none 'if red stay").pattern.eaten("fi", 0), None)
        self.assertEqual(rule_of("none 'if red stay").pattern.eaten("x", 0), 1)
        self.assertEqual(rule_of("many 'if red stay").pattern.eaten("fifix", 0), 4)

    def test_a_low_line_stands_for_a_blank(self):
        self.assertEqual(rule_of("word '_ red stay").pattern.eaten(" ", 0), 1)
        self.assertEqual(rule_of("word 'a_b_ red stay").pattern.eaten("a b ", 0), 4)
        self.assertEqual(rule_of("word 'a_b red stay").pattern.eaten("a_b", 0), None)
        self.assertEqual(rule_of("one 'a_ red stay").pattern.eaten(" ", 0), 1)
        self.assertEqual(rule_of("one 'a_ red stay").pattern.eaten("_", 0), None)
        self.assertEqual(rule_of("none '_ red stay").pattern.eaten("_", 0), 1)
        self.assertEqual(rule_of("many '_a_ red stay").pattern.eaten("a  a_", 0), 4)

    def test_a_quote_behind_the_quote_is_a_sign(self):
        self.assertEqual(rule_of("word '' red stay").pattern.eaten("'", 0), 1)
        self.assertEqual(rule_of("word ''' red stay").pattern.eaten("''", 0), 2)
        self.assertEqual(rule_of("one 'a' red stay").pattern.eaten("'", 0), 1)

    def test_every_sign_may_stand_in_a_word(self):
        for code in range(ord("!"), ord("~") + 1):
            sign = chr(code)
            if sign not in "%_":
                text = f"mode start black\none '{sign} red stay"
                rules = read_rules(text)
                self.assertEqual(rules.modes[0].rules[0].pattern.eaten(sign, 0), 1)
                self.assertEqual(shown_rules(rules), text)


class Modes(unittest.TestCase):
    def test_one_mode_without_rules(self):
        rules = read_rules("mode start black")
        self.assertIsInstance(rules, Rules)
        self.assertEqual(len(rules.modes), 1)
        self.assertIsInstance(rules.modes[0], Mode)
        self.assertEqual((rules.modes[0].name, rules.modes[0].colour), ("start", "black"))
        self.assertEqual(rules.modes[0].rules, [])
        self.assertEqual(shown_rules(rules), "mode start black")

    def test_kinds_of_the_lists(self):
        rules = read_rules("mode start black\nany red stay")
        self.assertIs(type(rules.modes), list)
        self.assertIs(type(rules.modes[0].rules), list)

    def test_twelve_modes_of_twelve_rules(self):
        rows = []
        for mode in LETTERS[:12]:
            rows.append(f"mode {mode} c{mode}")
            for number in range(12):
                rows.append(f"one '{LETTERS[number]} d{LETTERS[number]} into {LETTERS[11 - number]}")
        text = "\n".join(rows)
        rules = read_rules(text)
        self.assertEqual([mode.name for mode in rules.modes], list(LETTERS[:12]))
        self.assertEqual([mode.colour for mode in rules.modes], ["c" + a for a in LETTERS[:12]])
        for mode in rules.modes:
            self.assertEqual([rule.goal for rule in mode.rules], list(range(11, -1, -1)))
            self.assertEqual([rule.colour for rule in mode.rules], ["d" + a for a in LETTERS[:12]])
        self.assertEqual(shown_rules(rules), text)

    def test_twelve_modes_without_rules(self):
        text = "\n".join([f"mode {a} {a}" for a in LETTERS[:12]])
        rules = read_rules(text)
        self.assertEqual([(mode.name, mode.colour) for mode in rules.modes], [(a, a) for a in LETTERS[:12]])
        self.assertEqual([mode.rules for mode in rules.modes], [[]] * 12)
        self.assertEqual(shown_rules(rules), text)

    def test_modes_with_and_without_rules(self):
        rules = read_rules("mode a b\nmode c d\nany e stay\nany f stay\nmode g h\nmode i j\nend pop")
        self.assertEqual([len(mode.rules) for mode in rules.modes], [0, 2, 0, 1])
        self.assertEqual([rule.colour for rule in rules.modes[1].rules], ["e", "f"])

    def test_two_rules_may_be_alike(self):
        text = "mode a b\nany e stay\nany e stay"
        self.assertEqual(len(read_rules(text).modes[0].rules), 2)
        self.assertEqual(shown_rules(read_rules(text)), text)

    def test_goals_earlier_later_and_the_mode_itself(self):
        for deed in ("push", "into"):
            text = f"mode a x\nmode b x\nstill {deed} a\nstill {deed} b\nstill {deed} c\nmode c x"
            rules = read_rules(text)
            self.assertEqual([rule.goal for rule in rules.modes[1].rules], [0, 1, 2])
            self.assertEqual(shown_rules(rules), text)

    def test_a_goal_may_stand_in_the_first_mode_for_the_last(self):
        rules = read_rules("mode a x\nany red push l\n" + "\n".join([f"mode {a} x" for a in LETTERS[1:12]]))
        self.assertEqual(rules.modes[0].rules[0].goal, 11)


class Names(unittest.TestCase):
    def test_names_of_one_and_of_eight_letters(self):
        text = "mode a z\nany q push abcdefgh\nany zyxwvuts into a\nmode abcdefgh zyxwvuts"
        rules = read_rules(text)
        self.assertEqual([mode.name for mode in rules.modes], ["a", "abcdefgh"])
        self.assertEqual([mode.colour for mode in rules.modes], ["z", "zyxwvuts"])
        self.assertEqual([rule.colour for rule in rules.modes[0].rules], ["q", "zyxwvuts"])
        self.assertEqual([rule.goal for rule in rules.modes[0].rules], [1, 0])
        self.assertEqual(shown_rules(rules), text)

    def test_every_small_letter(self):
        for letter in LETTERS:
            self.assertEqual(read_rules(f"mode {letter} {letter}").modes[0].name, letter)

    def test_names_that_are_beginnings_of_others(self):
        text = "mode abc x\nmode ab x\nmode a x\nstill push ab\nstill push a\nstill push abc\nstill push abcd\nmode abcd x"
        rules = read_rules(text)
        self.assertEqual([rule.goal for rule in rules.modes[2].rules], [1, 2, 0, 3])
        self.assertEqual(shown_rules(rules), text)

    def test_names_that_are_called_like_words_of_rules(self):
        names = ["mode", "stay", "push", "pop", "into", "open", "close", "word", "any", "still", "end", "none"]
        rows = ["any stay push open open", "any open into mode close", "any pop pop open", "still push stay"]
        rows = rows + ["one 'a push push push", "still into push", "end push pop close", "any any stay"]
        rows = [f"mode {name} {name}" for name in names] + rows
        rules = read_rules("\n".join(rows))
        self.assertEqual([mode.name for mode in rules.modes], names)
        self.assertEqual(
            [fields_of(rule) for rule in rules.modes[11].rules],
            [
                ("stay", "push", 5, "open"),
                ("open", "into", 0, "close"),
                ("pop", "pop", None, "open"),
                ("", "push", 1, ""),
                ("push", "push", 2, ""),
                ("", "into", 2, ""),
                ("", "push", 3, "close"),
                ("any", "stay", None, ""),
            ],
        )
        self.assertEqual(shown_rules(rules), "\n".join(rows))

    def test_a_goal_called_open_is_no_fold_mark(self):
        rule = read_rules("mode open x\nany red push open").modes[0].rules[0]
        self.assertEqual(fields_of(rule), ("red", "push", 0, ""))


class Shown(unittest.TestCase):
    TEXT = (
        "mode start black\nword '/* green push remark open\nmany '0123456789 blue stay\none 'aba_ red stay\n"
        "mode remark green\nword '/* green push remark open\nword '*/ green pop close\nnone '*/ green stay\n"
        "still stay\nend into start"
    )

    def test_the_very_text_again_and_again(self):
        rules = read_rules(self.TEXT)
        for turn in range(3):
            self.assertEqual(shown_rules(rules), self.TEXT)
            rules = read_rules(shown_rules(rules))

    def test_showing_changes_nothing(self):
        rules = read_rules(self.TEXT)
        modes = list(rules.modes)
        held = [list(mode.rules) for mode in modes]
        fields = [fields_of(rule) for mode in modes for rule in mode.rules]
        shown_rules(rules)
        self.assertEqual(rules.modes, modes)
        self.assertEqual([mode.rules for mode in modes], held)
        self.assertEqual([fields_of(rule) for mode in modes for rule in mode.rules], fields)

    def test_two_readings_share_nothing(self):
        first = read_rules(self.TEXT)
        second = read_rules(self.TEXT)
        first.modes[0].rules.clear()
        first.modes[1].name = "other"
        first.modes.pop()
        self.assertEqual(shown_rules(second), self.TEXT)
        self.assertEqual(shown_rules(read_rules(self.TEXT)), self.TEXT)

    def test_modes_and_rules_do_not_hang_on_the_lists_they_were_made_of(self):
        held = [Rule(Any(), "red", "stay", None, "")]
        modes = [Mode("a", "b", held)]
        rules = Rules(modes)
        held.clear()
        modes.clear()
        self.assertEqual(shown_rules(rules), "mode a b\nany red stay")


if __name__ == "__main__":
    unittest.main()
