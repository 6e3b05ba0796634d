"""A hand's marks, and a scribe's text: points 16 and 18."""

import random
import unittest

from tests.plain import WatchedScribe, all_places, is_ring, plain_modes, some_text, told_by
from tintrow.errors import NoMark, NoPlace, Rings, TintError
from tintrow.folds import folds
from tintrow.reading import read_rules, shown_rules
from tintrow.scribe import Scribe
from tintrow.tinted import Tinted

RULES = "mode start black\nword '/* green push remark open\nmode remark grey\nword '*/ green pop close"
ROWS = ["ab/*", "", "c*/def", "gh"]
NO_NAMES = ["", "ninelette", "aaaaaaaaa", "A", "aB", "a1", "1", "a b", " ", " a", "a ", "a_", "-"]


class Base(unittest.TestCase):
    def scribe(self, rows=ROWS, text=RULES):
        return WatchedScribe(self, Scribe(read_rules(text), list(rows)), text, rows)

    def refused(self, error, scribe, deed, *handed):
        """Holds a refusal's class, and all that is told behind it against all that was told ahead of it."""
        with self.subTest(deed=deed, handed=handed):
            ahead = told_by(scribe.scribe)
            with self.assertRaises(TintError) as taken:
                getattr(scribe.scribe, deed)(*handed)
            self.assertIs(type(taken.exception), error)
            self.assertEqual(told_by(scribe.scribe), ahead)
            scribe.check()


class New(Base):
    def test_it_has_no_marks(self):
        told = Scribe(read_rules(RULES), ["a"]).marks()
        self.assertEqual(told, {})
        self.assertIs(type(told), dict)

    def test_its_text_is_a_tinted(self):
        scribe = Scribe(read_rules(RULES), list(ROWS))
        self.assertIsInstance(scribe.text(), Tinted)
        self.assertEqual(scribe.text().rows(), ROWS)
        self.assertEqual(scribe.text().begin(1), [0, 1])
        self.assertEqual(scribe.text().colours(2), ["grey", "green", "green", "black", "black", "black"])
        self.assertEqual(scribe.text().marks(0), [(2, "open")])
        scribe.put(0, 0, "x")
        self.assertIsInstance(scribe.text(), Tinted)
        self.assertEqual(scribe.text().rows(), ["xab/*"] + ROWS[1:])

    def test_its_folds(self):
        scribe = Scribe(read_rules(RULES), ROWS + ["/*", "/**/"])
        self.assertEqual(scribe.folds(), [(0, 2, (2, 1)), (4, 0, (5, 2))])
        scribe.cut(2, 1, 2, 3)
        self.assertEqual(scribe.folds(), [(0, 2, (5, 2))])
        self.assertEqual(scribe.folds(), folds([scribe.text().marks(row) for row in range(6)]))
        self.assertEqual(Scribe(read_rules(RULES), [""]).folds(), [])
        self.assertEqual(Scribe(read_rules(RULES), ["", "/*"]).folds(), [(1, 0, None)])

    def test_rules_with_a_ring_are_refused(self):
        for text, sign in (
            ("mode a x\nend stay", None),
            ("mode a x\nnone 'k red stay\nstill push b\nmode b x\nstill pop", "k"),
        ):
            with self.assertRaises(Rings) as taken:
                Scribe(read_rules(text), ["a"])
            self.assertEqual(taken.exception.sign, sign)
            self.assertTrue(is_ring(plain_modes(text), taken.exception.ring, sign))

    def test_nothing_hangs_on_what_was_handed_in(self):
        rules = read_rules(RULES)
        rows = list(ROWS)
        scribe = WatchedScribe(self, Scribe(rules, rows), RULES, ROWS)
        self.assertEqual(rows, ROWS)
        self.assertEqual(shown_rules(rules), RULES)
        rows.append("strange")
        rows[0] = ""
        rules.modes[0].rules.clear()
        rules.modes[1].colour = "strange"
        rules.modes.pop()
        scribe.check()
        scribe.put(0, 0, "/*\n")
        scribe.undo()

    def test_two_scribes_of_the_same_rules_and_rows(self):
        rules = read_rules(RULES)
        rows = list(ROWS)
        first = WatchedScribe(self, Scribe(rules, rows), RULES, ROWS)
        second = WatchedScribe(self, Scribe(rules, rows), RULES, ROWS)
        first.set_mark("a", 1, 0)
        first.put(0, 1, "\n")
        second.check()
        second.set_mark("b", 0, 0)
        first.check()


class SetAndDropped(Base):
    def test_at_any_place(self):
        for row, at in all_places(ROWS):
            scribe = self.scribe()
            scribe.set_mark("here", row, at)
            self.assertEqual(scribe.scribe.marks(), {"here": (row, at)})

    def test_names_of_one_and_of_eight_letters(self):
        scribe = self.scribe()
        for name in ("a", "z", "eightlet", "zzzzzzzz", "ab"):
            scribe.set_mark(name, 0, 1)
        for name in ("z", "a", "eightlet", "ab", "zzzzzzzz"):
            scribe.drop_mark(name)
        self.assertEqual(scribe.scribe.marks(), {})

    def test_names_rise(self):
        scribe = self.scribe()
        for at, name in enumerate(["c", "a", "b", "aa", "ab"]):
            scribe.set_mark(name, 2, at)
        expected = [("a", (2, 1)), ("aa", (2, 3)), ("ab", (2, 4)), ("b", (2, 2)), ("c", (2, 0))]
        self.assertEqual(list(scribe.scribe.marks().items()), expected)

    def test_names_rise_behind_moves_and_deeds(self):
        scribe = self.scribe()
        for name in ("z", "m", "a"):
            scribe.set_mark(name, 0, 0)
        scribe.set_mark("z", 3, 2)
        scribe.put(0, 0, "x\n")
        self.assertEqual(list(scribe.scribe.marks()), ["a", "m", "z"])
        scribe.drop_mark("a")
        scribe.set_mark("a", 0, 0)
        self.assertEqual(list(scribe.scribe.marks()), ["a", "m", "z"])
        scribe.undo()
        self.assertEqual(list(scribe.scribe.marks()), ["a", "m", "z"])

    def test_set_once_more_it_is_moved(self):
        scribe = self.scribe()
        scribe.set_mark("a", 0, 1)
        scribe.set_mark("b", 0, 1)
        scribe.set_mark("a", 3, 2)
        self.assertEqual(scribe.scribe.marks(), {"a": (3, 2), "b": (0, 1)})
        scribe.set_mark("a", 3, 2)
        self.assertEqual(scribe.scribe.marks(), {"a": (3, 2), "b": (0, 1)})

    def test_taken_away_and_set_again(self):
        scribe = self.scribe()
        scribe.set_mark("a", 0, 1)
        scribe.drop_mark("a")
        self.assertEqual(scribe.scribe.marks(), {})
        scribe.set_mark("a", 2, 0)
        self.assertEqual(scribe.scribe.marks(), {"a": (2, 0)})

    def test_told_dicts_are_the_askers(self):
        scribe = self.scribe()
        for change in (dict.clear, lambda told: told.update(a=(9, 9)), lambda told: told.update(x=(0, 0))):
            change(scribe.scribe.marks())
            scribe.check()
            scribe.set_mark("a", 0, 1)
        earlier = scribe.scribe.marks()
        scribe.put(0, 0, "xyz")
        scribe.drop_mark("a")
        self.assertEqual(earlier, {"a": (0, 1)})
        scribe.undo()
        scribe.scribe.marks().clear()
        scribe.check()

    def test_told_folds_are_the_askers(self):
        scribe = self.scribe()
        earlier = scribe.scribe.folds()
        scribe.scribe.folds().clear()
        scribe.check()
        scribe.cut(0, 0, 3, 2)
        self.assertEqual(earlier, [(0, 2, (2, 1))])


class Refused(Base):
    def setUp(self):
        self.kept = self.scribe()
        self.kept.set_mark("a", 2, 2)
        self.kept.set_mark("eightlet", 3, 2)
        self.kept.put(0, 0, "x\n")
        self.kept.put(1, 0, "y")
        self.kept.undo()

    def tearDown(self):
        # What can be undone and done once more is as it was, too.
        self.kept.redo()
        self.kept.undo()
        self.kept.undo()
        self.assertEqual(self.kept.rows, ROWS)

    def test_a_name_that_is_none(self):
        for name in NO_NAMES:
            self.refused(NoMark, self.kept, "set_mark", name, 0, 0)

    def test_a_name_that_is_none_at_a_place_that_is_none(self):
        for name in NO_NAMES:
            for row, at in ((-1, 0), (9, 0), (0, -1), (0, 9)):
                self.refused(NoMark, self.kept, "set_mark", name, row, at)

    def test_a_good_name_at_a_place_that_is_none(self):
        rows = self.kept.rows
        for name in ("a", "eightlet", "other"):
            for row in (-1, -2, -len(rows), -len(rows) - 1, len(rows), len(rows) + 1, 1000):
                for at in (0, 1, -1):
                    self.refused(NoPlace, self.kept, "set_mark", name, row, at)
            for row, signs in enumerate(rows):
                for at in (-1, -len(signs) - 1, len(signs) + 1, 1000):
                    self.refused(NoPlace, self.kept, "set_mark", name, row, at)

    def test_drop_a_mark_that_is_not_set(self):
        for name in NO_NAMES + ["b", "aa", "eightle", "z"]:
            self.refused(NoMark, self.kept, "drop_mark", name)

    def test_drop_a_mark_twice(self):
        scribe = self.scribe()
        self.refused(NoMark, scribe, "drop_mark", "a")
        scribe.set_mark("a", 0, 0)
        scribe.drop_mark("a")
        self.refused(NoMark, scribe, "drop_mark", "a")

    def test_put_and_cut_at_no_place(self):
        rows = self.kept.rows
        none = [(row, 0) for row in (-1, -len(rows), len(rows), 1000)]
        none += [(row, at) for row, signs in enumerate(rows) for at in (-1, -len(signs), len(signs) + 1) if at != 0]
        for row, at in none:
            for text in ("", "x", "\n"):
                self.refused(NoPlace, self.kept, "put", row, at, text)
            self.refused(NoPlace, self.kept, "cut", row, at, row, at)
            self.refused(NoPlace, self.kept, "cut", row, at, len(rows) - 1, 0)
            self.refused(NoPlace, self.kept, "cut", 0, 0, row, at)

    def test_cut_with_a_first_place_behind_the_second_one(self):
        places = all_places(self.kept.rows)
        for number, second in enumerate(places):
            for first in places[number + 1 :: 3]:
                self.refused(NoPlace, self.kept, "cut", *first, *second)


class MovedByPut(Base):
    def moved(self, place, put, text, goes):
        scribe = self.scribe()
        scribe.set_mark("m", *place)
        scribe.put(*put, text)
        with self.subTest(place=place, put=put, text=text):
            self.assertEqual(scribe.scribe.marks(), {"m": goes})

    def test_ahead_of_the_mark(self):
        self.moved((2, 3), (2, 1), "xy", (2, 5))
        self.moved((2, 3), (2, 1), "x\ny", (3, 3))
        self.moved((2, 3), (2, 1), "x\n\nlong", (4, 6))
        self.moved((2, 3), (2, 1), "\n", (3, 2))
        self.moved((2, 3), (2, 1), "\nx", (3, 3))
        self.moved((2, 3), (2, 1), "x\n", (3, 2))
        self.moved((2, 3), (2, 1), "\n\n\n", (5, 2))
        self.moved((2, 3), (2, 1), "", (2, 3))

    def test_at_the_marks_very_place(self):
        self.moved((2, 3), (2, 3), "xy", (2, 5))
        self.moved((2, 3), (2, 3), "x\nyz", (3, 2))
        self.moved((2, 3), (2, 3), "\n", (3, 0))
        self.moved((2, 3), (2, 3), "x\n", (3, 0))
        self.moved((2, 3), (2, 3), "\nx", (3, 1))
        self.moved((2, 3), (2, 3), "a\nb\nc", (4, 1))
        self.moved((2, 3), (2, 3), "", (2, 3))
        self.moved((0, 0), (0, 0), "x", (0, 1))
        self.moved((3, 2), (3, 2), "x\n", (4, 0))
        self.moved((1, 0), (1, 0), "x\ny", (2, 1))

    def test_behind_the_mark(self):
        for text in ("xy", "x\ny", "\n", "\n\nx", "x\n", ""):
            self.moved((2, 3), (2, 4), text, (2, 3))
            self.moved((2, 3), (3, 0), text, (2, 3))
            self.moved((1, 0), (2, 0), text, (1, 0))

    def test_a_mark_in_a_later_row(self):
        self.moved((2, 3), (0, 4), "xy", (2, 3))
        self.moved((2, 3), (0, 0), "x\ny", (3, 3))
        self.moved((2, 1), (1, 0), "\n\n", (4, 1))
        self.moved((3, 0), (0, 2), "a\nb\nc\nd", (6, 0))

    def test_two_marks_at_one_place(self):
        scribe = self.scribe()
        scribe.set_mark("b", 2, 3)
        scribe.set_mark("a", 2, 3)
        scribe.put(2, 3, "x\ny")
        self.assertEqual(scribe.scribe.marks(), {"a": (3, 1), "b": (3, 1)})
        scribe.cut(3, 1, 3, 2)
        self.assertEqual(scribe.scribe.marks(), {"a": (3, 1), "b": (3, 1)})

    def test_each_place_with_each_mark(self):
        for text in ("x", "xy\n", "\nxyz", "x\n\nyz", "\n", "/*", ""):
            for put in all_places(ROWS):
                scribe = self.scribe()
                for number, place in enumerate(all_places(ROWS)):
                    scribe.set_mark("m" + "abcdefghijklmnopqrstuvwxyz"[number], *place)
                scribe.put(*put, text)


class MovedByCut(Base):
    def moved(self, place, first, second, goes):
        scribe = self.scribe()
        scribe.set_mark("m", *place)
        scribe.cut(*first, *second)
        with self.subTest(place=place, first=first, second=second):
            self.assertEqual(scribe.scribe.marks(), {"m": goes})

    def test_ahead_of_the_mark_in_its_row(self):
        self.moved((2, 5), (2, 1), (2, 3), (2, 3))
        self.moved((2, 5), (2, 0), (2, 4), (2, 1))

    def test_ahead_of_the_mark_over_several_rows(self):
        self.moved((2, 5), (0, 3), (2, 2), (0, 6))
        self.moved((2, 5), (1, 0), (2, 0), (1, 5))
        self.moved((3, 1), (0, 1), (3, 0), (0, 2))

    def test_around_the_mark(self):
        self.moved((2, 3), (2, 2), (2, 5), (2, 2))
        self.moved((2, 3), (0, 4), (3, 1), (0, 4))
        self.moved((1, 0), (0, 2), (2, 4), (0, 2))
        self.moved((2, 6), (2, 0), (3, 0), (2, 0))

    def test_the_mark_at_its_begin_and_at_its_end(self):
        self.moved((2, 3), (2, 3), (2, 5), (2, 3))
        self.moved((2, 3), (2, 3), (3, 1), (2, 3))
        self.moved((2, 5), (2, 3), (2, 5), (2, 3))
        self.moved((3, 1), (2, 3), (3, 1), (2, 3))

    def test_behind_the_mark(self):
        self.moved((2, 3), (2, 4), (2, 6), (2, 3))
        self.moved((2, 3), (2, 4), (3, 1), (2, 3))
        self.moved((0, 4), (1, 0), (3, 2), (0, 4))

    def test_a_mark_in_a_later_row(self):
        self.moved((3, 1), (0, 1), (0, 3), (3, 1))
        self.moved((3, 1), (0, 1), (1, 0), (2, 1))
        self.moved((3, 1), (0, 1), (2, 6), (1, 1))

    def test_nothing_taken_out(self):
        for place in all_places(ROWS):
            self.moved((2, 3), place, place, (2, 3))

    def test_each_two_places_with_each_mark(self):
        places = all_places(ROWS)
        for number, first in enumerate(places):
            for second in places[number:]:
                scribe = self.scribe()
                for count, place in enumerate(places):
                    scribe.scribe.set_mark("m" + "abcdefghijklmnopqrstuvwxyz"[count], *place)
                    scribe.marks["m" + "abcdefghijklmnopqrstuvwxyz"[count]] = place
                scribe.cut(*first, *second)


class ByChance(Base):
    def test_marks_go_on_with_what_stands_behind(self):
        chance = random.Random(18)
        for turn in range(60):
            scribe = self.scribe()
            for number in range(6):
                scribe.set_mark("abcdef"[number], *chance.choice(all_places(scribe.rows)))
            for deed in range(8):
                first, second = sorted(chance.choices(all_places(scribe.rows), k=2))
                if chance.randrange(2):
                    scribe.put(*first, some_text(chance, "ab/*/", 3))
                else:
                    scribe.cut(*first, *second)


if __name__ == "__main__":
    unittest.main()
