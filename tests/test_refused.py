"""Rules refused: point 7."""

import random
import re
import unittest

from tintrow.errors import NoRules
from tintrow.reading import read_rules, shown_rules

LETTERS = "abcdefghijklmnopqrstuvwxyz"
SORTS = ["word 'ab", "one 'ab", "none 'ab", "many 'ab", "any", "still", "end"]
DEEDS = ["stay", "push start", "pop", "into start"]
NO_NAMES = ["", "abcdefghi", "Red", "reD", "r3d", "3", "re-d", "'red", "re_d"]


def place(text):
    """The place of the fault that a text is refused for."""
    try:
        read_rules(text)
    except NoRules as refusal:
        return (refusal.row, refusal.word)
    return None


def with_row(row):
    return "mode start black\n" + row


def sort_rows():
    """Each sort of rule's row without and with fold mark, as a list of words."""
    rows = []
    for sort in SORTS:
        colour = [] if sort in ("still", "end") else ["red"]
        for deed in DEEDS:
            for fold in ([], ["open"], ["close"]):
                rows.append(sort.split() + colour + deed.split() + fold)
    return rows


class Base(unittest.TestCase):
    def check(self, text, row, word):
        with self.subTest(text=text):
            self.assertEqual(place(text), (row, word))

    def let(self, text):
        with self.subTest(text=text):
            self.assertIsNone(place(text))


class ModeRows(Base):
    def test_a_text_without_signs(self):
        self.check("", 0, 0)

    def test_whole_numbers_are_told(self):
        for text in ("", "mode a b c", "mode a b\nany red push x"):
            with self.assertRaises(NoRules) as taken:
                read_rules(text)
            self.assertIs(type(taken.exception.row), int)
            self.assertIs(type(taken.exception.word), int)

    def test_a_rule_ahead_of_the_first_mode(self):
        for words in sort_rows():
            self.check(" ".join(words), 0, 0)
            self.check(" ".join(words) + "\nmode start black", 0, 0)

    def test_a_strange_word_in_each_place(self):
        self.check("modes start black", 0, 0)
        self.check("Mode start black", 0, 0)
        self.check("start black", 0, 0)
        for name in NO_NAMES:
            self.check(f"mode {name} black", 0, 1)
            self.check(f"mode start {name}", 0, 2)

    def test_words_lacking_and_too_many(self):
        self.check("mode", 0, 1)
        self.check("mode start", 0, 2)
        self.check("mode start black open", 0, 3)
        self.check("mode start black black black", 0, 3)
        self.check("mode a b\nmode", 1, 1)
        self.check("mode a b\nmode c", 1, 2)
        self.check("mode a b\nmode c d e", 1, 3)

    def test_blanks(self):
        self.check(" mode start black", 0, 0)
        self.check("mode  start black", 0, 1)
        self.check("mode start  black", 0, 2)
        self.check("mode start black ", 0, 3)
        self.check(" ", 0, 0)
        self.check("mode ", 0, 1)
        self.check("mode start ", 0, 2)

    def test_a_row_without_signs(self):
        self.check("\nmode start black", 0, 0)
        self.check("mode start black\n", 1, 0)
        self.check("mode start black\n\nany red stay", 1, 0)
        self.check("mode start black\nany red stay\n", 2, 0)

    def test_a_name_told_twice(self):
        self.check("mode a x\nmode a x", 1, 1)
        self.check("mode a x\nmode b x\nany red stay\nmode a y", 3, 1)
        self.check("mode a x\nmode b x\nmode b", 2, 1)
        self.check("mode a x\nany red push a\nmode a x", 2, 1)
        self.let("mode a a\nmode b a\nmode aa a")

    def test_a_thirteenth_mode(self):
        rows = [f"mode {a} x" for a in LETTERS[:12]]
        self.let("\n".join(rows))
        for last in ("mode m x", "mode a x", "mode", "mode M", "mode m x x", "mode  m x"):
            self.check("\n".join(rows + [last]), 12, 0)
        self.check("\n".join(rows + ["any red stay", "mode m x"]), 13, 0)


class RuleRows(Base):
    def test_all_sorts_are_let(self):
        for words in sort_rows():
            self.let(with_row(" ".join(words)))

    def test_a_strange_word_in_each_place(self):
        for words in sort_rows():
            for at in range(len(words)):
                for strange in ("", "Strange", "'"):
                    row = " ".join(words[:at] + [strange] + words[at + 1 :])
                    self.check(with_row(row), 1, at)

    def test_a_word_lacking_at_the_end(self):
        for words in sort_rows():
            if words[-1] not in ("open", "close"):
                for length in range(1, len(words)):
                    self.check(with_row(" ".join(words[:length])), 1, length)

    def test_a_word_too_many(self):
        for words in sort_rows():
            folded = words[-1] in ("open", "close")
            for more in ("stay", "red", "x", "Open", "'a", ""):
                self.check(with_row(" ".join(words + [more])), 1, len(words))
            if folded:
                for more in ("open", "close"):
                    self.check(with_row(" ".join(words + [more])), 1, len(words))

    def test_blanks(self):
        for words in sort_rows():
            row = " ".join(words)
            self.check(with_row(" " + row), 1, 0)
            self.check(with_row(row + " "), 1, len(words))
            for at in range(1, len(words)):
                self.check(with_row(" ".join(words[:at]) + "  " + " ".join(words[at:])), 1, at)

    def test_no_patterns(self):
        for word in ("words", "Any", "'any", "without", "stay", "red", "modes", "'"):
            self.check(with_row(f"{word} red stay"), 1, 0)

    def test_no_signs(self):
        for sort in ("word", "one", "none", "many"):
            for signs in ("'", "ab", '"ab', "a'b", "_'a"):
                self.check(with_row(f"{sort} {signs} red stay"), 1, 1)
            self.check(with_row(f"{sort} red stay"), 1, 1)
        for sort in ("any", "still", "end"):
            self.check(with_row(f"{sort} 'ab red stay"), 1, 1)

    def test_no_colours(self):
        for name in NO_NAMES:
            self.check(with_row(f"any {name} stay"), 1, 1)
            self.check(with_row(f"word 'a {name} stay"), 1, 2)

    def test_a_colour_where_none_stands_and_none_where_one_does(self):
        self.check(with_row("still red stay"), 1, 1)
        self.check(with_row("end red stay"), 1, 1)
        self.check(with_row("any stay"), 1, 2)
        self.check(with_row("any stay open"), 1, 2)
        self.check(with_row("any pop push start open x"), 1, 5)

    def test_no_deeds(self):
        for word in ("go", "Stay", "open", "start", "'stay", "stays"):
            self.check(with_row(f"any red {word}"), 1, 2)
            self.check(with_row(f"still {word}"), 1, 1)

    def test_a_goal_where_none_stands_and_none_where_one_does(self):
        self.check(with_row("any red stay start"), 1, 3)
        self.check(with_row("any red pop start"), 1, 3)
        self.check(with_row("any red push"), 1, 3)
        self.check(with_row("end into"), 1, 2)

    def test_no_goals(self):
        for deed in ("push", "into"):
            for name in NO_NAMES:
                self.check(with_row(f"any red {deed} {name}"), 1, 3)
                self.check(with_row(f"end {deed} {name} open"), 1, 2)

    def test_no_fold_marks(self):
        for word in ("opened", "Open", "stay", "shut", "'open"):
            self.check(with_row(f"any red stay {word}"), 1, 3)
            self.check(with_row(f"any red push start {word}"), 1, 4)

    def test_a_thirteenth_rule(self):
        twelve = ["mode start black"] + ["any red stay"] * 12
        self.let("\n".join(twelve))
        for last in ("any red stay", "any red", "any Red stay", "nothing", "", " any red stay"):
            self.check("\n".join(twelve + [last]), 13, 0)
        self.let("\n".join(twelve + ["mode a x"] + ["any red stay"] * 12))
        self.check("\n".join(twelve + ["mode a x"] + ["any red stay"] * 13), 26, 0)
        self.check("\n".join(twelve + ["mode"]), 13, 1)


class SeveralFaults(Base):
    def test_the_first_one_is_told(self):
        self.check("mode a x\nany red\nmode a x", 1, 2)
        self.check("mode a x\nany Red go", 1, 1)
        self.check("mode A X\nany Red go", 0, 1)
        self.check("mode a x\nword ' Red", 1, 1)
        self.check("mode a x\n\n\n", 1, 0)
        self.check("mode a x\nany red push Nine\nnothing", 1, 3)
        self.check("mode a x\nany  Red stay", 1, 1)
        self.check("mode a x x x\n mode", 0, 3)

    def test_what_is_refused_changes_nothing(self):
        text = "mode a x\nany red push b\nmode b x"
        read = read_rules(text)
        for bad in ("mode a x\nmode a x", "mode b x\nany red push c", ""):
            self.assertIsNotNone(place(bad))
            self.assertEqual(place(bad), place(bad))
        self.assertEqual(shown_rules(read), text)
        self.assertEqual(shown_rules(read_rules(text)), text)


class GoalsThatStandNowhere(Base):
    def test_alone(self):
        self.check("mode a x\nany red push b", 1, 3)
        self.check("mode a x\nword 'a red into b open", 1, 4)
        self.check("mode a x\nstill push aa", 1, 2)
        self.check("mode aa x\nend into a close", 1, 2)
        self.check("mode a x\nany red push x", 1, 3)
        self.check("mode a x\nany red push red\nmode b x", 1, 3)

    def test_words_that_would_be_names(self):
        self.check("mode a x\nany red push open", 1, 3)
        self.check("mode a x\nany red push mode open", 1, 3)

    def test_several(self):
        self.check("mode a x\nany red push a\nstill into b\nany red push c\nmode d x\nend push b", 2, 2)
        self.check("mode a x\nmode c x\nany red push d\nany red push b", 2, 3)

    def test_with_another_fault_further_down(self):
        nowhere = "mode a x\nany red push b\n"
        self.check(nowhere + "any red", 2, 2)
        self.check(nowhere + "any red stay ", 2, 3)
        self.check(nowhere + "mode a x", 2, 1)
        self.check(nowhere + "", 2, 0)
        self.check(nowhere + "mode b", 2, 2)
        self.check(nowhere + "any red push c\nmode c x x", 3, 3)
        self.check(nowhere + "\n".join(["any red stay"] * 12), 13, 0)
        self.check("mode a x\nany red push b stay", 1, 4)

    def test_with_another_fault_further_up(self):
        self.check("mode a x\nany red\nany red push b", 1, 2)


NAME = "[a-z]{1,8}"
SIGNS = "'.+"
FORMS = [
    pattern + deed + fold
    for pattern in [[w, SIGNS, NAME] for w in ("word", "one", "none", "many")] + [["any", NAME], ["still"], ["end"]]
    for deed in (["stay"], ["push", NAME], ["pop"], ["into", NAME])
    for fold in ([], ["open"], ["close"])
]
DEED_AT = {"word": 3, "one": 3, "none": 3, "many": 3, "any": 2, "still": 1, "end": 1}


def row_fault(words, forms):
    """The first word of a row that no form goes on with, or None where a form is the row's."""
    best = 0
    for form in forms:
        fit = 0
        while fit < min(len(form), len(words)) and re.fullmatch(form[fit], words[fit]):
            fit += 1
        if fit == len(form) == len(words):
            return None
        best = max(best, fit)
    return best


def plain_fault(text):
    """Point 7 once more, by the forms that a row may have."""
    names = []
    many = 0
    goals = []
    for number, row in enumerate(text.split("\n")):
        words = row.split(" ")
        is_mode = words[0] == "mode"
        if (number == 0 and not is_mode) or (is_mode and len(names) == 12) or (not is_mode and many == 12):
            return (number, 0)
        if is_mode:
            taken = "".join([f"(?!{name}$)" for name in names])
            fault = row_fault(words, [["mode", taken + NAME, NAME]])
        else:
            fault = row_fault(words, FORMS)
        if fault is not None:
            return (number, fault)
        if is_mode:
            names.append(words[1])
            many = 0
        else:
            many += 1
            at = DEED_AT[words[0]]
            if words[at] in ("push", "into"):
                goals.append((number, at + 1, words[at + 1]))
    for number, at, name in goals:
        if name not in names:
            return (number, at)
    return None


class AgainstThePlainReading(unittest.TestCase):
    WORDS = "mode word one none many any still end stay push pop into open close a b aa red 'a '_ ' A a1 abcdefghi".split()

    def some_text(self, chance):
        names = chance.sample(["a", "b", "aa", "mode", "open", "stay", "push", "x", "y", "z", "q", "r"], chance.randint(1, 12))
        rows = []
        for name in names:
            rows.append(["mode", name, chance.choice(["red", "a"])])
            for turn in range(chance.choice([0, 1, 2, 3, 12])):
                form = chance.choice(FORMS)
                rows.append([self.some_word(chance, form, at, names) for at in range(len(form))])
        return rows

    def some_word(self, chance, form, at, names):
        if form[at] == SIGNS:
            return chance.choice(["'a", "'_", "'ab", "''"])
        if form[at] == NAME:
            return chance.choice(names)
        return form[at]

    def spoil(self, chance, rows):
        row = chance.choice(rows)
        at = chance.randrange(len(row)) if row else 0
        deed = chance.randrange(5)
        if deed == 0 and row:
            row.pop(at)
        elif deed == 1:
            row.insert(at, chance.choice(self.WORDS + [""]))
        elif deed == 2 and row:
            row[at] = chance.choice(self.WORDS + [""])
        elif deed == 3:
            rows.insert(chance.randrange(len(rows) + 1), list(chance.choice(rows)))
        else:
            row.append(chance.choice(self.WORDS + [""]))

    def test_spoilt_texts(self):
        chance = random.Random(7)
        told = {True: 0, False: 0}
        for turn in range(3000):
            rows = self.some_text(chance)
            for spoiling in range(chance.choice([0, 1, 1, 2, 3])):
                self.spoil(chance, rows)
            text = "\n".join([" ".join(row) for row in rows])
            fault = plain_fault(text)
            self.assertEqual(place(text), fault, text)
            told[fault is None] += 1
            if fault is None:
                self.assertEqual(shown_rules(read_rules(text)), text)
        self.assertGreater(min(told.values()), 300)


if __name__ == "__main__":
    unittest.main()
