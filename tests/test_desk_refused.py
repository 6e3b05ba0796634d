"""What a desk refuses: points 2, 7, 10, 16 and 21."""

import random
import re
import unittest

from tests.plain import SIGNS, is_ring, plain_modes
from tintrow.desk import Desk
from tintrow.errors import NoLine, NoMark, NoPlace, NoRules, Nothing, Rings, TintError

RULES = "mode start black\nword '/* green push remark open\nmode remark grey\nword '*/ green pop close\nword '*/ red pop"
ROWS = ["ab/*", "", "c*/def", "gh"]
RING = "mode a x\nany y stay\nmode b x\nend into c\nmode c x\nend into b"
SIGN_RING = "mode a x\nnone 'k y stay\nstill push b\nmode b x\nstill pop"

GOOD_ROWS = [
    "rules\n" + RULES,
    "put 0 0\nx",
    "cut 0 0 0 0",
    "undo",
    "redo",
    "mark a 0 0",
    "drop a",
    "marks",
    "row 0",
    "tint 0",
    "folds",
    "never",
]
# Where a number stands, @ stands for it.
WITH_NUMBERS = [
    "put @ 0\nx", "put 0 @\nx", "cut @ 0 0 0", "cut 0 @ 0 0", "cut 0 0 @ 0", "cut 0 0 0 @",
    "mark a @ 0", "mark a 0 @", "row @", "tint @",
]
NO_NUMBERS = [
    "00", "01", "007", "0000", "10000", "12345", "00000", "99999", "+1", "-1", "-0", "+0", "1a", "a1", "a", "1.0", "1_0",
    "0x1", "1e1", "-", "1-", "'1", "1,", "", "1 ", " 1",
]
NO_LINES = [
    "", " ", "  ", "\n", " \n", "\nrules", "x", "rule", "rulesx", "Rules\nmode a x", "RULES\nmode a x", "ROW 0", "Row 0",
    "puts 0 0\nx", "0", "7 row", "ok", "- -", "help", "mode a x", "word", "text", "say", "set_mark a 0 0", "begin 0",
    # A word too few.
    "put\nx", "put 0\nx", "cut", "cut 0", "cut 0 0", "cut 0 0 0", "mark", "mark a", "mark a 0", "mark 0 0", "drop", "row",
    "tint",
    # A word too many.
    "rules x\nmode a x", "rules mode a x\nmode a x", "put 0 0 0\nx", "put 0 0 x\nx", "cut 0 0 0 0 0", "undo 1", "undo x",
    "redo 1", "mark a 0 0 0", "mark a b 0 0", "drop a b", "drop a a", "marks a", "marks 0", "row 0 0", "tint 0 0",
    "folds 0", "never 0", "never start",
    # Two blanks, or one at the begin or at the end.
    "put  0 0\nx", "put 0  0\nx", "cut 0  0 0 0", "mark  a 0 0", "mark a  0 0", "mark a 0  0", "drop  a", "row  0",
    "tint  0", " rules\nmode a x", "rules \nmode a x", " put 0 0\nx", "put 0 0 \nx", " cut 0 0 0 0", "cut 0 0 0 0 ",
    " undo", "undo ", " redo", "redo ", " mark a 0 0", "mark a 0 0 ", " drop a", "drop a ", " marks", "marks ", " row 0",
    "row 0 ", " tint 0", "tint 0 ", " folds", "folds ", " never", "never ", "undo  ", "  undo",
    # A name without signs.
    "mark  0 0", "drop ", "drop  ", "mark   ",
    # A line end where there is to be none.
    "cut 0 0 0 0\n", "cut 0 0\n0 0", "undo\n", "undo\nundo", "redo\n", "mark a 0 0\n", "mark a\n0 0", "mark\na 0 0",
    "mark a\nb 0 0", "drop a\n", "drop\na", "drop a\nb", "marks\n", "marks\nx", "row 0\n", "row\n0", "tint 0\n",
    "tint 0\n0", "folds\n", "never\n", "\nundo", "\n\n",
    # None where there is to be one.
    "rules", "put 0 0", "rules mode a x", "put 0 0 x",
    # The words parted by a line end.
    "put\n0 0\nx", "put 0\n0\nx", "put \n0 0",
]


class Base(unittest.TestCase):
    def desk(self):
        """A desk with a text, marks, and something to undo and to do once more."""
        desk = Desk()
        desk.say("rules\n" + RULES)
        desk.say("put 0 0\n" + "\n".join(ROWS))
        desk.say("mark a 2 3")
        desk.say("mark b 3 2")
        desk.say("put 3 0\nx\n")
        desk.say("mark c 0 0")
        desk.say("undo")
        return desk

    def told(self, desk):
        rows = [desk.say(f"row {row}") for row in range(len(ROWS))]
        tints = [desk.say(f"tint {row}") for row in range(len(ROWS))]
        return (rows, tints, desk.say("marks"), desk.say("folds"), desk.say("never"))

    def refused(self, desk, error, row):
        with self.subTest(row=row):
            with self.assertRaises(TintError) as taken:
                desk.say(row)
            self.assertIs(type(taken.exception), error)
            return taken.exception

    def refused_and_as_before(self, desk, error, row):
        ahead = self.told(desk)
        refusal = self.refused(desk, error, row)
        with self.subTest(row=row):
            self.assertEqual(self.told(desk), ahead)
        return refusal

    def still_the_same(self, desk):
        """Holds against what they were all that the desk of above has, what can be undone and done once more too."""
        tints = ["2 black, 2 green", "", "1 grey, 2 green, 3 black", "2 black"]
        self.assertEqual(self.told(desk), (ROWS, tints, "a 2 3\nb 3 2", "0 2 2 1", "remark 1"))
        self.refused(desk, NoPlace, "row 4")
        self.assertEqual(desk.say("redo"), "1")
        self.assertEqual(desk.say("row 3"), "x")
        self.assertEqual(desk.say("marks"), "a 2 3\nb 4 2\nc 0 0")
        self.refused(desk, Nothing, "redo")
        self.assertEqual(desk.say("undo"), "0")
        self.assertEqual(desk.say("undo"), "1")
        self.assertEqual(desk.say("row 0"), "")
        self.refused(desk, Nothing, "undo")


class Lines(Base):
    def test_a_row_that_is_not_as_listed(self):
        desk = self.desk()
        for row in NO_LINES:
            self.refused(desk, NoLine, row)
        self.still_the_same(desk)

    def test_a_number_that_is_none(self):
        desk = self.desk()
        for row in WITH_NUMBERS:
            for number in NO_NUMBERS:
                self.refused(desk, NoLine, row.replace("@", number))
        self.still_the_same(desk)

    def test_no_sign_but_the_figures_stands_in_a_number(self):
        desk = self.desk()
        for sign in SIGNS:
            if sign not in "0123456789":
                for number in (sign, "1" + sign, sign + "1", "1" + sign + "1"):
                    self.refused(desk, NoLine, f"row {number}")
        self.still_the_same(desk)

    def test_ahead_of_any_rules(self):
        desk = Desk()
        for row in NO_LINES + [row.replace("@", number) for row in WITH_NUMBERS for number in NO_NUMBERS]:
            self.refused(desk, NoLine, row)

    def test_ahead_of_all_else(self):
        desk = self.desk()
        for row in (
            "mark A 900 01", "mark A 0 0 0", "drop zz\n", "row 9999\n", "put 900 900", "cut 9 9 0 0 ", "rules mode\nx",
            "rules \nno rules", "row 09", "undo 0", "mark a1 0 00000",
        ):
            self.refused(desk, NoLine, row)
        desk.say("undo")
        self.refused(desk, Nothing, "undo")
        self.refused(desk, NoLine, "undo ")

    def test_blanks_anywhere(self):
        # One more blank, or one less, anywhere in the first row makes it another one than is listed.
        desk = self.desk()
        for row in GOOD_ROWS:
            head, end, body = row.partition("\n")
            for at in range(len(head) + 1):
                self.refused(desk, NoLine, head[:at] + " " + head[at:] + end + body)
            for at, sign in enumerate(head):
                if sign == " ":
                    self.refused(desk, NoLine, head[:at] + head[at + 1 :] + end + body)
        self.still_the_same(desk)

    def test_the_greatest_numbers_are_numbers(self):
        desk = self.desk()
        for row in WITH_NUMBERS:
            for number in ("9999", "1000", "999", "100", "10"):
                self.refused(desk, NoPlace, row.replace("@", number))
        self.still_the_same(desk)

    def test_spoilt_rows_by_chance(self):
        chance = random.Random(23)
        desk = self.desk()
        for turn in range(2000):
            row = chance.choice(GOOD_ROWS[1:])
            at = chance.randrange(len(row.partition("\n")[0]))
            spoilt = row[:at] + chance.choice(["\n", " ", "-", "A", "00", ""]) + row[at + chance.randrange(2) :]
            if not self.listed(spoilt):
                self.refused(desk, NoLine, spoilt)
        self.still_the_same(desk)

    def listed(self, row):
        """Whether a row is as listed: a plain reading."""
        number = "(0|[1-9][0-9]{0,3})"
        forms = [
            "undo", "redo", "marks", "folds", "never", f"cut {number} {number} {number} {number}", f"row {number}",
            f"tint {number}", f"mark [^ \n]+ {number} {number}", "drop [^ \n]+",
        ]
        one_row = any(self.fits(form, row) for form in forms)
        return one_row or self.fits("rules\n(.|\n)*", row) or self.fits(f"put {number} {number}\n(.|\n)*", row)

    def fits(self, form, row):
        return re.fullmatch(form, row) is not None


class WithoutRules(Base):
    def test_each_row_but_rules(self):
        desk = Desk()
        for row in GOOD_ROWS[1:] + [
            "row 7", "row 9999", "tint 7", "put 7 7\nx", "put 0 0\n", "cut 1 0 0 0", "mark A 7 7", "mark 1 0 0", "drop A",
            "drop nosuch", "mark ninelette 0 0",
        ]:
            refusal = self.refused(desk, NoRules, row)
            self.assertEqual((refusal.row, refusal.word), (0, 0), row)

    def test_nothing_was_done(self):
        desk = Desk()
        self.refused(desk, NoRules, "put 0 0\nx")
        self.refused(desk, NoRules, "mark a 0 0")
        desk.say("rules\n" + RULES)
        self.assertEqual(desk.say("row 0"), "")
        self.assertEqual(desk.say("marks"), "")
        self.refused(desk, Nothing, "undo")

    def test_still_none_behind_rules_that_were_refused(self):
        desk = Desk()
        self.refused(desk, NoRules, "rules\nmode a x\nany y go")
        self.refused(desk, Rings, "rules\n" + RING)
        refusal = self.refused(desk, NoRules, "row 0")
        self.assertEqual((refusal.row, refusal.word), (0, 0))
        self.assertEqual(desk.say("rules\n" + RULES), "ok")
        self.assertEqual(desk.say("row 0"), "")


class AsTheFunctions(Base):
    def test_no_place(self):
        desk = self.desk()
        for row in (
            "row 4", "row 5", "row 9999", "tint 4", "tint 100", "put 4 0\nx", "put 0 5\nx", "put 1 1\n", "put 9999 9999\n",
            "cut 0 5 2 0", "cut 0 0 4 0", "cut 0 0 3 3", "cut 1 0 0 4", "cut 2 2 2 1", "cut 1 1 1 1", "mark d 4 0",
            "mark d 0 5", "mark a 1 1", "mark b 9999 0",
        ):
            self.refused_and_as_before(desk, NoPlace, row)
        self.still_the_same(desk)

    def test_no_mark(self):
        desk = self.desk()
        for name in ("A", "aB", "a1", "1", "0", "-", "ninelette", "a_b", "'a", "a.b", "~", "42"):
            self.refused_and_as_before(desk, NoMark, f"mark {name} 0 0")
            self.refused_and_as_before(desk, NoMark, f"mark {name} 9 9")
            self.refused_and_as_before(desk, NoMark, f"drop {name}")
        for name in ("c", "aa", "eightlet", "mark"):
            self.refused_and_as_before(desk, NoMark, f"drop {name}")
        self.still_the_same(desk)

    def test_nothing(self):
        desk = Desk()
        desk.say("rules\n" + RULES)
        self.refused(desk, Nothing, "undo")
        self.refused(desk, Nothing, "redo")
        desk.say("put 0 0\nx")
        self.refused(desk, Nothing, "redo")
        desk.say("undo")
        self.refused(desk, Nothing, "undo")
        desk.say("redo")
        self.refused(desk, Nothing, "redo")
        self.assertEqual(desk.say("row 0"), "x")


class RulesRefused(Base):
    def test_no_rules(self):
        desk = self.desk()
        for text, row, word in (
            ("", 0, 0),
            ("\n" + RULES, 0, 0),
            ("any y stay", 0, 0),
            ("mode", 0, 1),
            ("mode A x", 0, 1),
            ("mode a x y", 0, 3),
            ("mode a x ", 0, 3),
            ("mode a x\n", 1, 0),
            (RULES + "\n", 5, 0),
            ("mode a x\nany y go", 1, 2),
            ("mode a x\nend push b", 1, 2),
            ("mode a x\nany y push b\nmode c x\nany Y stay", 3, 1),
            ("mode a x\nmode a x", 1, 1),
            ("mode a x" + "\nany y stay" * 13, 13, 0),
            ("rules\n" + RULES, 0, 0),
        ):
            refusal = self.refused_and_as_before(desk, NoRules, "rules\n" + text)
            self.assertEqual((refusal.row, refusal.word), (row, word), text)
        self.still_the_same(desk)

    def test_rings(self):
        desk = self.desk()
        for text, sign in ((RING, None), (SIGN_RING, "k"), ("mode a x\nend stay", None)):
            refusal = self.refused_and_as_before(desk, Rings, "rules\n" + text)
            self.assertEqual(refusal.sign, sign)
            self.assertTrue(is_ring(plain_modes(text), refusal.ring, sign))
        self.still_the_same(desk)

    def test_a_text_that_never_meets_the_ring(self):
        desk = Desk()
        refusal = self.refused(desk, Rings, "rules\nmode a x\nany y stay\nmode b x\nstill stay")
        self.assertEqual(refusal.ring, ["b"])

    def test_no_rules_ahead_of_rings(self):
        desk = self.desk()
        self.refused(desk, NoRules, "rules\n" + RING + "\nany y")
        self.still_the_same(desk)


if __name__ == "__main__":
    unittest.main()
