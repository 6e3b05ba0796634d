"""The desk: point 21."""

import itertools
import random
import unittest

from tests.plain import WatchedScribe, plain_folds, plain_modes, plain_text, plain_tint, some_deed, some_rules
from tintrow.desk import Desk
from tintrow.errors import NoPlace, Nothing
from tintrow.looking import ring_of
from tintrow.reading import read_rules
from tintrow.scribe import Scribe

RULES = "mode start black\nword '/* green push remark open\nmode remark grey\nword '*/ green pop close"
ROWS = ["ab/*", "", "c*/def", "gh"]
PLAIN = "mode a x"


class Base(unittest.TestCase):
    def desk(self, rules=RULES, rows=ROWS):
        desk = Desk()
        self.assertEqual(desk.say("rules\n" + rules), "ok")
        desk.say("put 0 0\n" + "\n".join(rows))
        return desk

    def says(self, desk, *told):
        """Tells rows to a desk, each with the answer that is expected."""
        for row, expected in zip(told[::2], told[1::2]):
            with self.subTest(row=row):
                answer = desk.say(row)
                self.assertIs(type(answer), str)
                self.assertEqual(answer, expected)

    def rows(self, desk, *rows):
        """Holds all rows of a desk's text against these."""
        self.assertEqual([desk.say(f"row {row}") for row in range(len(rows))], list(rows))
        with self.assertRaises(NoPlace):
            desk.say(f"row {len(rows)}")


class Told(Base):
    def test_by_example(self):
        desk = Desk()
        self.says(
            desk,
            "rules\n" + RULES, "ok",
            "row 0", "",
            "put 0 0\nab/*\n\nc*/def\ngh", "4",
            "row 0", "ab/*",
            "row 1", "",
            "row 2", "c*/def",
            "row 3", "gh",
            "tint 0", "2 black, 2 green",
            "tint 1", "",
            "tint 2", "1 grey, 2 green, 3 black",
            "folds", "0 2 2 1",
            "marks", "",
            "never", "",
            "mark here 2 3", "ok",
            "cut 0 2 0 4", "3",
            "marks", "here 2 3",
            "tint 2", "6 black",
            "folds", "",
            "undo", "3",
            "redo", "3",
            "drop here", "ok",
            "marks", "",
        )

    def test_its_first_text_is_one_row_without_signs(self):
        desk = Desk()
        self.says(desk, "rules\n" + PLAIN, "ok", "row 0", "", "tint 0", "", "marks", "", "folds", "", "never", "")
        self.says(desk, "put 0 0\n", "0", "mark a 0 0", "ok", "marks", "a 0 0", "cut 0 0 0 0", "0")
        self.rows(desk, "")

    def test_put(self):
        desk = self.desk(PLAIN, [""])
        self.says(desk, "put 0 0\nab", "1", "put 0 1\n", "0", "put 0 2\n\n", "1", "put 1 0\n  c ", "1")
        self.rows(desk, "ab", "  c ")
        self.says(desk, "put 0 1\n\n\n", "3")
        self.rows(desk, "a", "", "b", "  c ")
        self.says(desk, "put 3 4\nput 0 0\nx", "2")
        self.rows(desk, "a", "", "b", "  c put 0 0", "x")
        self.says(desk, "put 1 0\n ", "1", "put 0 1\n\n ", "1")
        self.rows(desk, "a", " ", " ", "b", "  c put 0 0", "x")

    def test_a_text_put_in_at_the_begin_within_and_at_the_end(self):
        for at, rows in ((0, ["x", "yab"]), (1, ["ax", "yb"]), (2, ["abx", "y"])):
            desk = self.desk(PLAIN, ["ab"])
            desk.say(f"put 0 {at}\nx\ny")
            self.rows(desk, *rows)

    def test_cut(self):
        desk = self.desk()
        self.says(desk, "cut 2 4 3 1", "1", "cut 1 0 1 0", "0")
        self.rows(desk, "ab/*", "", "c*/dh")
        self.says(desk, "cut 0 1 2 3", "1")
        self.rows(desk, "adh")
        self.says(desk, "cut 0 0 0 3", "1")
        self.rows(desk, "")

    def test_undo_and_redo(self):
        desk = self.desk(RULES, ["a", "b"])
        self.says(desk, "put 0 0\n/*", "2", "cut 0 3 1 0", "1", "tint 0", "2 green, 2 grey")
        self.says(desk, "undo", "2", "undo", "2")
        self.rows(desk, "a", "b")
        self.says(desk, "undo", "1")
        self.rows(desk, "")
        self.says(desk, "redo", "2", "redo", "2", "redo", "1")
        self.rows(desk, "/*ab")

    def test_marks(self):
        desk = self.desk()
        self.says(desk, "mark b 0 0", "ok", "mark a 2 6", "ok", "mark eightlet 1 0", "ok", "mark aa 0 4", "ok")
        self.says(desk, "marks", "a 2 6\naa 0 4\nb 0 0\neightlet 1 0")
        self.says(desk, "mark b 3 1", "ok", "drop aa", "ok", "marks", "a 2 6\nb 3 1\neightlet 1 0")
        self.says(desk, "put 0 0\nx\ny", "2", "marks", "a 3 6\nb 4 1\neightlet 2 0")
        self.says(desk, "undo", "1", "marks", "a 2 6\nb 3 1\neightlet 1 0")
        self.says(desk, "drop a", "ok", "drop b", "ok", "drop eightlet", "ok", "marks", "")

    def test_names_like_the_words_of_rows(self):
        desk = self.desk()
        self.says(desk, "mark mark 0 1", "ok", "mark drop 0 2", "ok", "mark marks 1 0", "ok", "mark row 3 0", "ok")
        self.says(desk, "drop mark", "ok", "marks", "drop 0 2\nmarks 1 0\nrow 3 0", "drop drop", "ok")

    def test_tint(self):
        desk = self.desk("mode a red\none 'b re stay\nmany '0 red stay\nany r stay", ["b" * 12 + "00c0b", "", "00"])
        self.says(desk, "tint 0", "12 re, 2 red, 1 r, 1 red, 1 re", "tint 1", "", "tint 2", "2 red")

    def test_folds(self):
        desk = self.desk("mode a x\none '( y stay open\none ') y stay close", ["a)((b)", "", "()", "(x"])
        self.says(desk, "folds", "0 2 - -\n0 3 0 5\n2 0 2 1\n3 0 - -")
        self.says(desk, "put 1 0\n)", "1", "folds", "0 2 1 0\n0 3 0 5\n2 0 2 1\n3 0 - -")
        self.says(desk, "cut 3 0 3 1", "1", "cut 0 0 2 2", "1", "folds", "")
        twice = self.desk("mode a x\nend push b open\nmode b x\nend into c open\nmode c x", ["ab"])
        self.says(twice, "folds", "0 2 - -\n0 2 - -")

    def test_never(self):
        desk = self.desk(
            "mode start x\none 'ab y stay\nword 'ax y stay\nmany 'b y stay\nany y stay\nstill stay\n"
            "mode none x\nmode third x\nend pop\nend pop\nnone 'a y stay\none 'b y stay\none 'a y stay\nstill pop",
            [""],
        )
        self.says(desk, "never", "start 1\nstart 2\nstart 4\nthird 1\nthird 3\nthird 5")
        many = "mode a x" + "\nany y stay" * 12 + "\nmode b x\nany y stay"
        expected = "\n".join([f"a {rule}" for rule in range(1, 12)])
        self.says(desk, "rules\n" + many, "ok", "never", expected)
        self.says(desk, "rules\n" + PLAIN, "ok", "never", "")

    def test_numbers(self):
        desk = self.desk(PLAIN, ["x"] * 12)
        self.says(desk, "row 0", "x", "row 9", "x", "row 10", "x", "mark a 10 1", "ok", "marks", "a 10 1")
        long = self.desk(PLAIN, ["y" * 1200])
        self.says(long, "put 0 1000\nz", "1", "mark a 0 1001", "ok", "tint 0", "1201 x", "cut 0 100 0 1201", "1")
        self.says(long, "marks", "a 0 100")

    def test_asking_changes_nothing(self):
        desk = self.desk()
        desk.say("put 0 0\nx")
        desk.say("undo")
        for row in ("row 0", "tint 0", "marks", "folds", "never") * 2:
            desk.say(row)
        self.says(desk, "redo", "1", "undo", "1")
        self.rows(desk, *ROWS)

    def test_two_desks(self):
        first = self.desk()
        second = self.desk(PLAIN, ["z"])
        first.say("mark a 0 0")
        first.say("put 0 0\nq")
        self.says(second, "marks", "", "row 0", "z", "never", "")
        third = Desk()
        self.says(third, "rules\n" + PLAIN, "ok", "row 0", "")


class RulesAnew(Base):
    def test_the_text_stays_and_is_coloured_from_its_start(self):
        desk = self.desk()
        self.says(desk, "rules\nmode other red\nword '*/ blue push one open\nmode one pink", "ok")
        self.rows(desk, *ROWS)
        self.says(desk, "tint 0", "4 red", "tint 2", "1 red, 2 blue, 3 pink", "tint 3", "2 pink", "folds", "2 1 - -")
        self.says(desk, "rules\n" + RULES, "ok", "tint 0", "2 black, 2 green", "tint 3", "2 black", "folds", "0 2 2 1")

    def test_no_marks_and_nothing_to_undo_or_to_do_once_more(self):
        for rules in (RULES, PLAIN):
            desk = self.desk()
            desk.say("mark a 0 0")
            desk.say("put 0 0\nx")
            desk.say("put 0 0\ny")
            desk.say("undo")
            self.says(desk, "rules\n" + rules, "ok", "marks", "")
            for row in ("undo", "redo"):
                with self.assertRaises(Nothing):
                    desk.say(row)
            self.rows(desk, "xab/*", "", "c*/def", "gh")
            self.says(desk, "put 0 0\nz", "1", "undo", "1")
            self.rows(desk, "xab/*", "", "c*/def", "gh")

    def test_right_behind_one_another(self):
        desk = Desk()
        self.says(desk, "rules\n" + RULES, "ok", "rules\n" + PLAIN, "ok", "put 0 0\n/*", "1", "tint 0", "2 x")


class ByChance(Base):
    def row_of(self, method, handed):
        """The row that asks a desk for what a scribe's method does."""
        words = [{"set_mark": "mark", "drop_mark": "drop"}.get(method, method)] + [str(word) for word in handed]
        return " ".join(words[:3]) + "\n" + words[3] if method == "put" else " ".join(words)

    def check(self, desk, scribe):
        told = plain_text(scribe.watched.modes, scribe.rows)
        self.rows(desk, *scribe.rows)
        tints = [desk.say(f"tint {row}") for row in range(len(scribe.rows))]
        self.assertEqual(tints, [plain_tint(colours) for colours in told[1]])
        marks = [f"{name} {place[0]} {place[1]}" for name, place in sorted(scribe.marks.items())]
        self.assertEqual(desk.say("marks"), "\n".join(marks))
        ends = [(row, place, end or ("-", "-")) for row, place, end in plain_folds(told[2])]
        self.assertEqual(desk.say("folds"), "\n".join([f"{row} {place} {end[0]} {end[1]}" for row, place, end in ends]))

    def test_as_a_scribe_and_the_plain_reading(self):
        chance = random.Random(21)
        desk = Desk()
        rows = [""]
        ended = 0
        while ended < 40:
            text = some_rules(chance, 2)
            rules = read_rules(text)
            if ring_of(rules) is not None:
                continue
            ended += 1
            self.says(desk, "rules\n" + text, "ok")
            scribe = WatchedScribe(self, Scribe(rules, list(rows)), text, rows)
            self.check(desk, scribe)
            for turn in range(15):
                method, *handed = some_deed(chance, scribe, "ab ")
                count = getattr(scribe, method)(*handed)
                self.says(desk, self.row_of(method, handed), "ok" if count is None else str(count))
                self.check(desk, scribe)
            rows = list(scribe.rows)

    def test_never_as_the_plain_reading(self):
        chance = random.Random(22)
        short = ["".join(signs) for many in range(5) for signs in itertools.product("abc ", repeat=many)]
        for turn in range(60):
            text = some_rules(chance, 2)
            if ring_of(read_rules(text)) is not None:
                continue
            desk = Desk()
            desk.say("rules\n" + text)
            hidden = []
            for mode in plain_modes(text):
                coming = {mode.first(row, 0) for row in short}
                hidden += [f"{mode.name} {rule}" for rule in range(len(mode.rules)) if rule not in coming]
            self.assertEqual(desk.say("never"), "\n".join(hidden))


if __name__ == "__main__":
    unittest.main()

