"""Undoing, and doing once more: points 3 and 19."""

import unittest

from tests.plain import WatchedScribe, all_places, told_by
from tintrow.errors import NoMark, NoPlace, Nothing, TintError
from tintrow.reading import read_rules
from tintrow.scribe import Scribe

RULES = "mode start black\nword '/* green push remark open\nmode remark grey\nword '*/ green pop close"
ROWS = ["ab/*", "", "c*/def", "gh"]
DEEDS = [
    ("put", 0, 0, "x"),
    ("put", 2, 3, "/*\n*/\ny"),
    ("cut", 0, 3, 2, 1),
    ("put", 0, 1, ""),
    ("cut", 1, 1, 1, 1),
    ("put", 1, 0, "\n\n"),
    ("cut", 0, 0, 4, 1),
    ("put", 0, 0, "/*"),
]


class Base(unittest.TestCase):
    def scribe(self, rows=ROWS, text=RULES):
        return WatchedScribe(self, Scribe(read_rules(text), list(rows)), text, rows)

    def do(self, scribe, deed):
        return getattr(scribe, deed[0])(*deed[1:])

    def nothing(self, scribe, *deeds):
        for deed in deeds:
            ahead = told_by(scribe.scribe)
            with self.assertRaises(TintError) as taken:
                getattr(scribe.scribe, deed)()
            self.assertIs(type(taken.exception), Nothing)
            self.assertEqual(told_by(scribe.scribe), ahead)
            scribe.check()


class Undone(Base):
    def test_each_deed(self):
        for text in ("x", "/*", "*/", "\n", "a\nb", "/*\n\n*/", ""):
            for place in all_places(ROWS):
                scribe = self.scribe()
                scribe.put(*place, text)
                scribe.undo()
                self.assertEqual(scribe.scribe.text().rows(), ROWS)
                scribe.redo()
                scribe.undo()
        places = all_places(ROWS)
        for number, first in enumerate(places):
            for second in places[number:]:
                scribe = self.scribe()
                scribe.cut(*first, *second)
                scribe.undo()
                self.assertEqual(scribe.scribe.text().rows(), ROWS)
                scribe.redo()

    def test_down_to_the_first_and_up_to_the_last(self):
        scribe = self.scribe()
        told = [told_by(scribe.scribe)]
        for deed in DEEDS:
            self.do(scribe, deed)
            told.append(told_by(scribe.scribe))
        for turn in range(2):
            for number in reversed(range(len(DEEDS))):
                scribe.undo()
                self.assertEqual(told_by(scribe.scribe), told[number])
            self.nothing(scribe, "undo")
            for number in range(len(DEEDS)):
                scribe.redo()
                self.assertEqual(told_by(scribe.scribe), told[number + 1])
            self.nothing(scribe, "redo")

    def test_the_last_one_first(self):
        scribe = self.scribe(["ab"])
        scribe.put(0, 1, "x")
        scribe.put(0, 1, "y")
        scribe.undo()
        self.assertEqual(scribe.scribe.text().rows(), ["axb"])
        scribe.undo()
        self.assertEqual(scribe.scribe.text().rows(), ["ab"])
        scribe.redo()
        self.assertEqual(scribe.scribe.text().rows(), ["axb"])
        scribe.redo()
        self.assertEqual(scribe.scribe.text().rows(), ["ayxb"])

    def test_part_of_the_way(self):
        scribe = self.scribe()
        for deed in DEEDS:
            self.do(scribe, deed)
        for many in (3, 1, 5):
            for turn in range(many):
                scribe.undo()
            for turn in range(many - 1):
                scribe.redo()

    def test_a_new_deed_leaves_nothing_to_do_once_more(self):
        for deed in (("put", 0, 0, "q"), ("put", 0, 0, ""), ("cut", 0, 0, 0, 1), ("cut", 0, 0, 0, 0)):
            scribe = self.scribe()
            for other in DEEDS[:4]:
                self.do(scribe, other)
            scribe.undo()
            scribe.undo()
            self.do(scribe, deed)
            self.nothing(scribe, "redo")
            scribe.undo()
            scribe.redo()
            self.nothing(scribe, "redo")
            for turn in range(3):
                scribe.undo()
            self.nothing(scribe, "undo")
            self.assertEqual(scribe.scribe.text().rows(), ROWS)

    def test_no_signs_put_in_and_nothing_taken_out_are_deeds(self):
        for deed in (("put", 1, 0, ""), ("cut", 2, 3, 2, 3), ("cut", 3, 2, 3, 2), ("put", 3, 2, "")):
            scribe = self.scribe()
            scribe.put(0, 0, "x")
            self.assertEqual(self.do(scribe, deed), 0)
            self.assertEqual(scribe.undo(), 0)
            self.assertEqual(scribe.scribe.text().rows()[0], "xab/*")
            self.assertEqual(scribe.redo(), 0)
            scribe.undo()
            scribe.undo()
            self.nothing(scribe, "undo")
            scribe.redo()
            self.assertEqual(scribe.redo(), 0)
            self.nothing(scribe, "redo")

    def test_setting_and_taking_away_marks_are_no_deeds(self):
        scribe = self.scribe()
        scribe.set_mark("a", 0, 0)
        scribe.set_mark("a", 0, 1)
        scribe.drop_mark("a")
        self.nothing(scribe, "undo", "redo")
        scribe.put(0, 0, "x")
        scribe.set_mark("b", 1, 0)
        scribe.undo()
        self.nothing(scribe, "undo")
        # Nor do they leave nothing to do once more.
        scribe.set_mark("c", 1, 0)
        scribe.set_mark("d", 1, 0)
        scribe.drop_mark("c")
        scribe.redo()
        self.nothing(scribe, "redo")

    def test_asking_is_no_deed(self):
        scribe = self.scribe()
        scribe.put(0, 0, "x")
        scribe.undo()
        scribe.scribe.text().part(0, 0, 3, 2)
        scribe.scribe.folds()
        scribe.scribe.marks()
        scribe.redo()
        self.nothing(scribe, "redo")

    def test_nothing(self):
        scribe = self.scribe()
        self.nothing(scribe, "undo", "redo", "undo")
        scribe.put(0, 0, "x")
        self.nothing(scribe, "redo")
        scribe.undo()
        self.nothing(scribe, "undo", "undo")
        scribe.redo()
        self.nothing(scribe, "redo", "redo")
        scribe.undo()

    def test_what_is_refused_leaves_what_can_be_undone_and_done_once_more(self):
        scribe = self.scribe()
        scribe.set_mark("a", 2, 1)
        scribe.put(0, 0, "x")
        scribe.cut(0, 0, 2, 0)
        scribe.undo()
        for error, deed in (
            (NoPlace, ("put", 9, 0, "x")),
            (NoPlace, ("put", -1, 0, "x")),
            (NoPlace, ("put", 0, 9, "")),
            (NoPlace, ("cut", 0, 1, 0, 0)),
            (NoPlace, ("cut", 0, 0, 4, 0)),
            (NoPlace, ("cut", 0, 0, 3, 3)),
            (NoPlace, ("set_mark", "b", 4, 0)),
            (NoMark, ("set_mark", "B", 0, 0)),
            (NoMark, ("drop_mark", "b")),
        ):
            ahead = told_by(scribe.scribe)
            with self.assertRaises(TintError) as taken:
                self.do(scribe.scribe, deed)
            self.assertIs(type(taken.exception), error, deed)
            self.assertEqual(told_by(scribe.scribe), ahead)
        scribe.redo()
        self.nothing(scribe, "redo")
        scribe.undo()
        scribe.undo()
        self.nothing(scribe, "undo")


class Marks(Base):
    def marks(self, scribe, expected):
        self.assertEqual(scribe.scribe.marks(), expected)

    def test_moved_by_the_deed(self):
        scribe = self.scribe()
        scribe.set_mark("a", 0, 2)
        scribe.set_mark("b", 3, 1)
        scribe.put(0, 1, "x\n")
        self.marks(scribe, {"a": (1, 1), "b": (4, 1)})
        scribe.undo()
        self.marks(scribe, {"a": (0, 2), "b": (3, 1)})
        scribe.redo()
        self.marks(scribe, {"a": (1, 1), "b": (4, 1)})

    def test_within_what_was_taken_out(self):
        scribe = self.scribe()
        for name, place in (("a", (0, 3)), ("b", (1, 0)), ("c", (2, 2)), ("d", (2, 4)), ("e", (3, 0)), ("f", (0, 0))):
            scribe.set_mark(name, *place)
        ahead = scribe.scribe.marks()
        scribe.cut(0, 2, 2, 3)
        self.marks(scribe, {"a": (0, 2), "b": (0, 2), "c": (0, 2), "d": (0, 3), "e": (1, 0), "f": (0, 0)})
        scribe.undo()
        self.marks(scribe, ahead)

    def test_set_since(self):
        scribe = self.scribe()
        scribe.set_mark("a", 0, 2)
        scribe.put(0, 0, "xy\n")
        scribe.set_mark("b", 0, 1)
        scribe.undo()
        self.marks(scribe, {"a": (0, 2)})
        scribe.redo()
        self.marks(scribe, {"a": (1, 2), "b": (0, 1)})

    def test_moved_since(self):
        scribe = self.scribe()
        scribe.set_mark("a", 0, 2)
        scribe.put(0, 0, "xy")
        scribe.set_mark("a", 3, 0)
        scribe.undo()
        self.marks(scribe, {"a": (0, 2)})
        scribe.redo()
        self.marks(scribe, {"a": (3, 0)})

    def test_taken_away_since(self):
        scribe = self.scribe()
        scribe.set_mark("a", 0, 2)
        scribe.cut(0, 0, 0, 1)
        scribe.drop_mark("a")
        scribe.undo()
        self.marks(scribe, {"a": (0, 2)})
        scribe.redo()
        self.marks(scribe, {})
        scribe.undo()
        self.marks(scribe, {"a": (0, 2)})

    def test_changed_between_an_undoing_and_a_doing_once_more(self):
        scribe = self.scribe()
        scribe.set_mark("a", 0, 2)
        scribe.put(0, 0, "x")
        scribe.undo()
        scribe.set_mark("b", 1, 0)
        scribe.drop_mark("a")
        # Done once more it is as straight ahead of the undoing, and undone as straight ahead of the first doing.
        scribe.redo()
        self.marks(scribe, {"a": (0, 3)})
        scribe.undo()
        self.marks(scribe, {"a": (0, 2)})

    def test_one_deed_of_a_hand_between_an_undoing_and_a_doing_once_more(self):
        for deed in (("drop_mark", "a"), ("set_mark", "a", 3, 0), ("set_mark", "b", 3, 0)):
            scribe = self.scribe()
            scribe.set_mark("a", 0, 2)
            scribe.put(0, 0, "x")
            for turn in range(2):
                scribe.undo()
                self.do(scribe, deed)
                scribe.redo()
                self.marks(scribe, {"a": (0, 3)})
            scribe.undo()
            self.marks(scribe, {"a": (0, 2)})
            scribe.redo()
            self.do(scribe, deed)
            ahead = scribe.scribe.marks()
            scribe.undo()
            self.marks(scribe, {"a": (0, 2)})
            scribe.redo()
            self.marks(scribe, ahead)

    def test_changed_behind_a_doing_once_more(self):
        scribe = self.scribe()
        scribe.put(0, 0, "x")
        scribe.set_mark("a", 0, 1)
        scribe.undo()
        scribe.redo()
        scribe.set_mark("b", 0, 2)
        scribe.drop_mark("a")
        scribe.undo()
        self.marks(scribe, {})
        scribe.redo()
        self.marks(scribe, {"b": (0, 2)})

    def test_changed_between_two_deeds(self):
        scribe = self.scribe()
        scribe.put(0, 0, "x")
        scribe.set_mark("a", 0, 5)
        scribe.put(0, 0, "y")
        scribe.set_mark("b", 0, 0)
        scribe.undo()
        self.marks(scribe, {"a": (0, 5)})
        scribe.set_mark("c", 0, 5)
        scribe.undo()
        self.marks(scribe, {})
        scribe.redo()
        self.marks(scribe, {"a": (0, 5), "c": (0, 5)})
        scribe.redo()
        self.marks(scribe, {"a": (0, 6), "b": (0, 0)})
        scribe.undo()
        self.marks(scribe, {"a": (0, 5)})

    def test_at_deeds_that_change_nothing(self):
        for deed in (("put", 0, 2, ""), ("cut", 0, 2, 0, 2)):
            scribe = self.scribe()
            scribe.set_mark("a", 0, 2)
            self.do(scribe, deed)
            self.marks(scribe, {"a": (0, 2)})
            scribe.set_mark("a", 3, 0)
            scribe.set_mark("b", 3, 0)
            scribe.undo()
            self.marks(scribe, {"a": (0, 2)})
            scribe.redo()
            self.marks(scribe, {"a": (3, 0), "b": (3, 0)})

    def test_a_mark_at_a_place_that_the_undoing_takes_away(self):
        scribe = self.scribe(["ab"])
        scribe.put(0, 2, "\nlong")
        scribe.set_mark("a", 1, 4)
        scribe.undo()
        self.marks(scribe, {})
        scribe.redo()
        self.marks(scribe, {"a": (1, 4)})

    def test_marks_that_were_moved_still_go_on_with_the_text(self):
        scribe = self.scribe()
        scribe.set_mark("a", 0, 2)
        scribe.put(0, 0, "x")
        scribe.undo()
        scribe.put(0, 0, "yy")
        self.marks(scribe, {"a": (0, 4)})
        scribe.undo()
        self.marks(scribe, {"a": (0, 2)})

    def test_what_was_told_hangs_on_nothing(self):
        scribe = self.scribe()
        scribe.set_mark("a", 0, 2)
        scribe.put(0, 0, "x")
        told = scribe.scribe.marks()
        told["b"] = (0, 0)
        scribe.undo()
        told = scribe.scribe.marks()
        told.clear()
        scribe.check()
        scribe.redo()
        self.marks(scribe, {"a": (0, 3)})


class Numbers(Base):
    def test_by_example(self):
        scribe = self.scribe(["a", "b", "c*/", "d"])
        self.assertEqual(scribe.put(0, 1, "/*"), 3)
        self.assertEqual(scribe.undo(), 3)
        self.assertEqual(scribe.redo(), 3)
        self.assertEqual(scribe.cut(0, 1, 2, 1), 1)
        self.assertEqual(scribe.undo(), 3)
        self.assertEqual(scribe.undo(), 3)

    def test_rows_that_are_the_very_texts_are_not_changed(self):
        # Put in between two rows: undone, the rows a, q and b stand for ab, of which none is the same.
        scribe = self.scribe(["ab", "z"])
        self.assertEqual(scribe.put(0, 1, "\nq\n"), 3)
        self.assertEqual(scribe.undo(), 1)
        self.assertEqual(scribe.redo(), 3)
        # A line end at a row's begin or end leaves the row itself.
        for place in ((0, 0), (0, 2)):
            scribe = self.scribe(["ab", "z"])
            self.assertEqual(scribe.put(*place, "\n"), 1)
            self.assertEqual(scribe.undo(), 0)
            self.assertEqual(scribe.redo(), 1)

    def test_rows_taken_out_whole(self):
        scribe = self.scribe(["ab", "cd", "ef"])
        self.assertEqual(scribe.cut(0, 2, 2, 2), 0)
        self.assertEqual(scribe.undo(), 2)
        self.assertEqual(scribe.redo(), 0)
        scribe = self.scribe(["ab", "cd", "ef"])
        self.assertEqual(scribe.cut(0, 0, 2, 0), 0)
        self.assertEqual(scribe.undo(), 2)

    def test_a_row_behind_that_begins_otherwise(self):
        scribe = self.scribe(["/*", "a", "*/", "b"])
        self.assertEqual(scribe.cut(0, 2, 2, 2), 1)
        self.assertEqual(scribe.rows, ["/*", "b"])
        self.assertEqual(scribe.undo(), 3)
        self.assertEqual(scribe.redo(), 1)

    def test_whole_numbers(self):
        scribe = self.scribe()
        for deed in (("put", 0, 0, ""), ("put", 0, 0, "x"), ("cut", 0, 0, 0, 1), ("undo",), ("redo",)):
            self.assertIs(type(self.do(scribe.scribe, deed)), int)


if __name__ == "__main__":
    unittest.main()
