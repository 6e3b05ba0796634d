"""Rules and texts as large as point 2 lets them be."""

import random
import unittest

from tests.plain import SIGNS, all_places, is_ring, plain_folds, plain_modes, plain_text, plain_tint
from tintrow.desk import Desk
from tintrow.folds import depths, fold_of, folds
from tintrow.going import gone_over
from tintrow.looking import ask_rings, first_rule, piece_of, ring_of
from tintrow.reading import read_rules
from tintrow.tinted import Tinted
from tintrow.wholes import begins, colours, fold_marks

LETTERS = "abcdefghijkl"
NAMED = "".join([sign for sign in SIGNS if sign not in " _"])


def twelve_modes(rows_of):
    """Twelve modes, each with the rows that are told of its number."""
    rows = []
    for number, letter in enumerate(LETTERS):
        rows.append(f"mode {letter} m{letter}")
        rows.extend(rows_of(number))
    return "\n".join(rows)


def goal(number):
    return LETTERS[number % 12]


def many_rows(number):
    """Twelve rules, of which the ones that eat nothing lead on to later modes alone."""
    rows = [f"word '{goal(number + at) * 3} ca push {goal(number + at)} open" for at in range(4)]
    rows += [f"one '{goal(number + at)} cb into {goal(3 * at + number)}" for at in range(5)]
    rows += ["many '0123 cc stay", "one '~ cd pop close"]
    return rows + ([f"still into {LETTERS[number + 1]}"] if number < 11 else ["any ce stay"])


class LargeRules(unittest.TestCase):
    def test_no_ring(self):
        rules = read_rules(twelve_modes(many_rows))
        self.assertEqual([len(mode.rules) for mode in rules.modes], [12] * 12)
        self.assertIsNone(ring_of(rules))
        self.assertIsNone(ask_rings(rules))

    def test_a_ring_of_twelve_behind_eleven_rules_each(self):
        part = [NAMED[at * 8 : at * 8 + 8] for at in range(11)]
        for deed in ("into", "push"):
            text = twelve_modes(
                lambda number: [f"one '{signs} red stay" for signs in part] + [f"still {deed} {goal(number + 1)}"]
            )
            ring, sign = ring_of(read_rules(text))
            self.assertEqual(set(ring), set(LETTERS))
            self.assertNotIn(sign, "".join(part))
            self.assertTrue(is_ring(plain_modes(text), ring, sign))

    def test_a_ring_of_eleven_by_a_push_and_a_pop(self):
        def rows_of(number):
            deed = {0: "into b", 1: "push c", 11: "pop"}.get(number, f"into {goal(number + 1)}")
            return ["any red stay", f"end {deed}"]

        text = twelve_modes(rows_of)
        ring, sign = ring_of(read_rules(text))
        self.assertEqual(set(ring), set(LETTERS[1:]))
        self.assertIsNone(sign)
        self.assertTrue(is_ring(plain_modes(text), ring, sign))

    def test_pieces(self):
        text = twelve_modes(many_rows)
        rules = read_rules(text)
        for number, mode in enumerate(plain_modes(text)):
            for rule in range(12):
                piece = piece_of(rules, number, rule)
                self.assertIsNotNone(piece)
                self.assertEqual(mode.first(piece, 0), rule)

    def test_a_rule_hidden_by_eleven_together(self):
        parts = [NAMED[at * 10 : at * 10 + 10] for at in range(10)]
        shared = [f"one '{signs} red stay" for signs in parts if signs]
        text = twelve_modes(lambda number: shared + ["none '" + NAMED + " red stay", "any red stay"])
        rules = read_rules(text)
        last = len(shared) + 1
        for number in range(12):
            self.assertIsNone(piece_of(rules, number, last))
            for rule in range(last):
                piece = piece_of(rules, number, rule)
                self.assertEqual(first_rule(rules, number, piece, 0), rule)

    def test_a_word_of_two_hundred_signs(self):
        word = "ab" * 100
        rules = read_rules(f"mode a x\nword '{word}c red stay\nword '{word} red stay\nword '{word}d red stay")
        self.assertEqual(piece_of(rules, 0, 0)[:201], word + "c")
        self.assertEqual(piece_of(rules, 0, 1)[:200], word)
        self.assertIsNone(piece_of(rules, 0, 2))


class LargeTexts(unittest.TestCase):
    NESTED = (
        "mode start black\nword '(( green push round open\none '( green push round open\n"
        "mode round grey\none '( red push round\none ') blue pop close\none '! blue stay\nmode other x"
    )

    def check(self, text, tinted, rows):
        """Holds each row against the plain reading."""
        told = plain_text(plain_modes(text), rows)
        self.assertEqual(tinted.rows(), rows)
        for row in range(len(rows)):
            self.assertEqual(tinted.begin(row), told[0][row])
            self.assertEqual(tinted.colours(row), told[1][row])
            self.assertEqual(tinted.marks(row), told[2][row])

    def test_four_hundred_rows_of_two_hundred_signs(self):
        chance = random.Random(16)
        text = twelve_modes(many_rows)
        rules = read_rules(text)
        rows = ["".join([chance.choice("abcdefghijkl0123~~~ ") for at in range(200)]) for row in range(400)]
        self.assertLess(max([len(on) for on in begins(rules, rows)]), 3000)
        tinted = Tinted(rules, rows)
        self.check(text, tinted, rows)
        told = plain_text(plain_modes(text), rows)
        self.assertEqual((begins(rules, rows), colours(rules, rows), fold_marks(rules, rows)), told)
        rows[0] = "aaa" + rows[0][3:]
        self.assertGreaterEqual(tinted.change(0, 1, [rows[0]]), 1)
        self.check(text, tinted, rows)

    def test_modes_piled_up(self):
        rows = ["(" * 200] * 15 + ["!" * 200] * 370 + [")" * 200] * 15
        rules = read_rules(self.NESTED)
        self.assertEqual(max([len(on) for on in begins(rules, rows)]), 3000)
        tinted = Tinted(rules, rows)
        self.check(self.NESTED, tinted, rows)
        # Two round ones at the begin push one mode alone, as a single one does.
        self.assertEqual(tinted.change(0, 1, ["(!" + "(" * 198]), 1)
        self.assertEqual(tinted.change(0, 1, ["(!!" + "(" * 197]), 400)
        self.assertEqual(tinted.cut(0, 1, 0, 3), 400)
        self.assertEqual(tinted.put(0, 0, "!!"), 1)
        rows[0] = "!!" + "(" * 198
        self.assertEqual(tinted.rows(), rows)
        self.check(self.NESTED, tinted, rows)

    def test_all_are_popped_at_one_place(self):
        rules = read_rules("mode a x\none 'p red push b\nmode b y\nend pop close\nstill pop\nmode c x")
        for row in ("", "z"):
            told = gone_over(rules, [0] + [1] * 2999, row)
            self.assertEqual(told[1], [0])
            self.assertEqual(told[2], [] if row else [(0, "close")] * 2999)
        self.assertEqual(gone_over(rules, [1] * 3000, "zz")[0], ["x", "x"])

    def test_all_are_pushed_in_few_rows(self):
        rules = read_rules("mode a x\nany red push a")
        told = begins(rules, ["k" * 200] * 15)
        self.assertEqual([len(on) for on in told], list(range(1, 3002, 200)))


class LargeFolds(unittest.TestCase):
    def test_piled_up_over_all_rows(self):
        marks = [[(place, "open") for place in range(200)]] * 15 + [[]] * 370 + [[(0, "close")] * 200] * 15
        told = folds(marks)
        self.assertEqual(len(told), 3000)
        self.assertEqual(told[0], (0, 0, (399, 0)))
        self.assertEqual(told[-1], (14, 199, (385, 0)))
        self.assertEqual(depths(marks)[:16], list(range(0, 3001, 200)))
        self.assertEqual(fold_of(marks, 0), 399)
        self.assertEqual([fold_of(marks, row) for row in (13, 14, 15, 399)], [386, 385, None, None])

    def test_many_one_behind_another(self):
        marks = [[(place, ("open", "close")[place % 2]) for place in range(200)] for row in range(400)]
        self.assertEqual(folds(marks), [(row, at, (row, at + 1)) for row in range(400) for at in range(0, 200, 2)])
        self.assertEqual(depths(marks), [0] * 400)


class LargeDesk(unittest.TestCase):
    """A text of 400 rows of 200 signs at a desk."""

    RULES = (
        "mode start black\nword '/* green push remark open\nmany '0123456789 blue stay\nany black stay\n"
        "mode remark grey\nword '/* green push remark open\nword '*/ green pop close\nmany 'abcdef grey stay"
    )

    def told(self, desk):
        rows = [desk.say(f"row {row}") for row in range(400)]
        return (rows, [desk.say(f"tint {row}") for row in range(400)], desk.say("folds"), desk.say("marks"))

    def plain(self, rows):
        """What the desk is to tell of these rows by the plain reading."""
        told = plain_text(plain_modes(self.RULES), rows)
        ends = [(row, at, end or ("-", "-")) for row, at, end in plain_folds(told[2])]
        tints = [plain_tint(colours) for colours in told[1]]
        return (rows, tints, "\n".join([f"{row} {at} {end[0]} {end[1]}" for row, at, end in ends]))

    def test_a_hundred_deeds_undone_and_done_once_more(self):
        chance = random.Random(24)
        rows = ["".join([chance.choice("abcdefghijk0123 ") for at in range(200)]) for row in range(400)]
        desk = Desk()
        self.assertEqual(desk.say("rules\n" + self.RULES), "ok")
        self.assertEqual(desk.say("put 0 0\n" + "\n".join(rows)), "400")
        self.assertEqual(desk.say("mark first 0 0"), "ok")
        self.assertEqual(desk.say("mark last 399 200"), "ok")
        first = self.told(desk)
        self.assertEqual(first[:3], self.plain(rows))
        for deed in range(50):
            row, at = chance.choice(all_places(rows[:400]))
            piece = chance.choice(["/*", "*/", "/* */", "x", "7", "/*\n*/"])
            desk.say(f"put {row} {at}\n{piece}")
            rows[row : row + 1] = (rows[row][:at] + piece + rows[row][at:]).split("\n")
            row = chance.randrange(400)
            at, at2 = sorted(chance.choices(range(len(rows[row]) + 1), k=2))
            desk.say(f"cut {row} {at} {row} {at2}")
            rows[row] = rows[row][:at] + rows[row][at2:]
        last = self.told(desk)
        self.assertEqual([desk.say(f"row {row}") for row in range(len(rows))], rows)
        self.assertEqual(self.plain(rows)[0][:400], last[0])
        self.assertEqual(self.plain(rows)[1][:400], last[1])
        self.assertEqual(self.plain(rows)[2], last[2])
        for turn in range(2):
            undone = [int(desk.say("undo")) for deed in range(100)]
            self.assertEqual(self.told(desk), first)
            done = [int(desk.say("redo")) for deed in range(100)]
            self.assertEqual(self.told(desk), last)
            self.assertGreater(max(undone + done), 1)

    def test_all_of_it_taken_out_and_put_back(self):
        rows = ["/*" * 100] * 15 + ["x" * 200] * 370 + ["*/" * 100] * 15
        desk = Desk()
        desk.say("rules\n" + self.RULES)
        self.assertEqual(desk.say("put 0 0\n" + "\n".join(rows)), "400")
        desk.say("mark m 200 100")
        self.assertEqual(desk.say("cut 0 0 399 200"), "1")
        self.assertEqual((desk.say("row 0"), desk.say("marks"), desk.say("folds")), ("", "m 0 0", ""))
        self.assertEqual(desk.say("undo"), "400")
        self.assertEqual(desk.say("marks"), "m 200 100")
        self.assertEqual(self.told(desk)[:3], self.plain(rows))
        self.assertEqual(desk.say("put 0 0\n/*"), "400")
        self.assertEqual(desk.say("undo"), "400")
        self.assertEqual(desk.say("rules\nmode a x"), "ok")
        self.assertEqual(desk.say("tint 399"), "200 x")


if __name__ == "__main__":
    unittest.main()
