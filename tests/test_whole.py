"""The promise as a whole, by chance: point 3."""

import random
import unittest

from tests.plain import WatchedScribe, has_endless, is_ring, plain_modes, some_deed, some_rules, some_text
from tintrow.errors import Rings
from tintrow.looking import piece_of
from tintrow.reading import read_rules
from tintrow.scribe import Scribe

# Remarks stand within remarks and over rows; a quote ends with its row.
REMARKS = (
    "mode start black\nword '/* green push remark open\none '( red push round open\none '\" blue push quote\n"
    "one ') red stay close\nmany '0123456789 white stay\n"
    "mode remark grey\nword '/* green push remark open\nword '*/ green pop close\n"
    "mode round pink\none ') red pop close\none '{ red into curly\n"
    "mode curly yellow\none '} red pop close\nend into curly open\n"
    "mode quote blue\none '\" blue pop\nend pop"
)


class ByChance(unittest.TestCase):
    def go(self, chance, text, rows, signs, deeds):
        """Does deeds of all sorts; each one is held against the whole text gone over from its start."""
        scribe = WatchedScribe(self, Scribe(read_rules(text), list(rows)), text, rows)
        for turn in range(deeds):
            method, *handed = some_deed(chance, scribe, signs)
            getattr(scribe, method)(*handed)
            if len(scribe.rows) > 12:
                scribe.cut(2, 0, 9, 0)
        while scribe.done:
            scribe.undo()
        self.assertEqual(scribe.rows, list(rows))
        while scribe.undone:
            scribe.redo()

    def test_rules_by_chance(self):
        chance = random.Random(3)
        ended = 0
        while ended < 70:
            text = some_rules(chance, 2)
            if has_endless(plain_modes(text), "abc "):
                with self.assertRaises(Rings) as taken:
                    Scribe(read_rules(text), ["a"])
                self.assertTrue(is_ring(plain_modes(text), taken.exception.ring, taken.exception.sign))
                continue
            ended += 1
            self.go(chance, text, some_text(chance, "abc ", 4).split("\n"), "abc ", 25)

    def test_nested_remarks(self):
        chance = random.Random(4)
        text = REMARKS.replace("end into curly open", "end into start open")
        for turn in range(12):
            self.go(chance, text, [""], ["/*", "*/", "/*", "*/", "(", ")", "{", "}", '"', "7", "x"], 60)

    def test_the_rules_of_nested_remarks_with_a_ring(self):
        with self.assertRaises(Rings) as taken:
            Scribe(read_rules(REMARKS), [""])
        self.assertEqual((taken.exception.ring, taken.exception.sign), (["curly"], None))

    def test_each_rule_comes_or_never_does(self):
        chance = random.Random(5)
        for turn in range(60):
            text = some_rules(chance, 2)
            rules = read_rules(text)
            for number, mode in enumerate(plain_modes(text)):
                for rule in range(len(mode.rules)):
                    piece = piece_of(rules, number, rule)
                    if piece is not None:
                        self.assertEqual(mode.first(piece, 0), rule)


if __name__ == "__main__":
    unittest.main()
