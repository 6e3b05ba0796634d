"""A text that is changed: points 3, 14 and 15."""

import random
import unittest

from tests.plain import Watched, is_ring, plain_modes, some_rules
from tintrow.errors import Rings
from tintrow.looking import ring_of
from tintrow.patterns import Pattern
from tintrow.reading import read_rules, shown_rules
from tintrow.tinted import Tinted
from tintrow.wholes import begins, colours, fold_marks

# Remarks stand within remarks and over rows; a quote ends with its row; round and square ones tell what lies below.
RULES = (
    "mode start black\nword '/* green push remark open\none '( red push round open\none '[ red push square open\n"
    'one \'" blue push quote\nmany \'0123456789 white stay\n'
    "mode remark grey\nword '/* green push remark open\nword '*/ green pop close\n"
    "mode round pink\none ') red pop close\none '{ red push inner\n"
    "mode square brown\none '] red pop close\none '{ red push inner\n"
    "mode inner yellow\none '} red pop\n"
    'mode quote blue\none \'" blue pop\nend pop'
)
ROWS = ["1", "(a", "{b", "}c)", '"x', "/*", "/*y", "*/*/", "z", ""]


class Base(unittest.TestCase):
    def watched(self, rows, text=RULES):
        return Watched(self, Tinted(read_rules(text), list(rows)), text, rows)


class New(Base):
    def test_tells_what_the_whole_tells(self):
        rules = read_rules(RULES)
        for rows in (ROWS, [""], ["a"], ["", ""], ["/*", "*/"], ["/*"] * 9):
            tinted = Tinted(rules, rows)
            numbers = range(len(rows))
            self.assertEqual(tinted.rows(), rows)
            self.assertEqual([tinted.begin(row) for row in numbers], begins(rules, rows)[:-1])
            self.assertEqual([tinted.colours(row) for row in numbers], colours(rules, rows))
            self.assertEqual([tinted.marks(row) for row in numbers], fold_marks(rules, rows))
            self.watched(rows)

    def test_by_example(self):
        tinted = Tinted(read_rules(RULES), ["1/*", "a*/"])
        self.assertEqual(tinted.begin(0), [0])
        self.assertEqual(tinted.begin(1), [0, 1])
        self.assertEqual(tinted.colours(0), ["white", "green", "green"])
        self.assertEqual(tinted.colours(1), ["grey", "green", "green"])
        self.assertEqual(tinted.marks(0), [(1, "open")])
        self.assertEqual(tinted.marks(1), [(1, "close")])

    def test_rules_with_a_ring_are_refused(self):
        for text, sign in (
            ("mode a x\nany red stay\nmode b x\nend into b", None),
            ("mode a x\nnone 'k red stay\nstill push b\nmode b x\nstill pop", "k"),
            ("mode a x\nany red stay\nend into b\nmode b x\nend pop", None),
            ("mode a x\nend stay", None),
        ):
            for rows in (["ab"], ["k", ""]):
                with self.assertRaises(Rings) as taken:
                    Tinted(read_rules(text), rows)
                self.assertEqual(taken.exception.sign, sign)
                self.assertTrue(is_ring(plain_modes(text), taken.exception.ring, sign))


class Changed(Base):
    def test_rows_taken_out(self):
        for row in range(len(ROWS)):
            for many in range(1, min(4, len(ROWS) - row) + 1):
                self.watched(ROWS).change(row, many, [])

    def test_rows_put_in(self):
        for row in range(len(ROWS) + 1):
            for new in (["q"], ["/*"], ["*/"], ["(", "{"], ["", "", ""], ["("] * 5):
                self.watched(ROWS).change(row, 0, new)

    def test_rows_taken_out_and_put_in(self):
        for row in range(len(ROWS)):
            for many in range(1, min(3, len(ROWS) - row) + 1):
                for new in (["q"], ["/*"], ["[", "{"], ["a", "b", "c", "d"]):
                    self.watched(ROWS).change(row, many, new)

    def test_none_of_either(self):
        watched = self.watched(ROWS)
        for row in range(len(ROWS) + 1):
            self.assertEqual(watched.change(row, 0, []), 0)

    def test_all_rows(self):
        self.assertEqual(self.watched(ROWS).change(0, len(ROWS), ["q"]), 1)
        self.assertEqual(self.watched(["a"]).change(0, 1, ["b", "c"]), 2)
        self.assertEqual(self.watched(["a"]).change(0, 1, [""]), 1)

    def test_behind_the_last_row(self):
        watched = self.watched(["/*", "a"])
        self.assertEqual(watched.change(2, 0, ["b*/", "1"]), 2)
        self.assertEqual(watched.tinted.begin(2), [0, 1])
        self.assertEqual(watched.change(4, 0, ["("]), 1)
        self.assertEqual(watched.change(5, 0, ["a"]), 1)
        self.assertEqual(watched.tinted.begin(5), [0, 2])

    def test_behind_rows_taken_out_at_the_end(self):
        watched = self.watched(["/*", "*/", "a", "("])
        self.assertEqual(watched.change(1, 3, []), 0)
        self.assertEqual(watched.change(1, 0, ["b"]), 1)
        self.assertEqual(watched.tinted.begin(1), [0, 1])

    def test_behind_a_change_down_to_the_end(self):
        watched = self.watched(["a", "b"])
        self.assertEqual(watched.change(0, 1, ["/*"]), 2)
        self.assertEqual(watched.change(2, 0, ["c"]), 1)
        self.assertEqual(watched.tinted.begin(2), [0, 1])


class HowMany(Base):
    def count(self, rows, row, many, new, expected):
        with self.subTest(rows=rows, row=row, many=many, new=new):
            self.assertEqual(self.watched(rows).change(row, many, new), expected)

    def test_a_change_that_ends_in_its_row(self):
        self.count(["a", "b", "c", "d"], 1, 1, ["x"], 1)
        self.count(["a", "b", "c", "d"], 1, 1, ["(x)"], 1)
        self.count(["/*", "b", "c", "d"], 1, 1, ["/*x*/"], 1)
        self.count(["a", "b", "c"], 0, 1, ['"'], 1)

    def test_a_change_that_goes_down_to_the_end(self):
        self.count(["a", "b", "c", "d"], 0, 1, ["/*"], 4)
        self.count(["a", "b", "c", "d"], 1, 1, ["/*"], 3)
        self.count(["a", "b", "c", "d"], 3, 1, ["/*"], 1)
        self.count(["a"] * 100, 0, 1, ["/*"], 100)
        self.count(["/*"] + ["a"] * 99, 0, 1, [], 99)

    def test_a_change_that_ends_in_the_middle(self):
        self.count(["a", "b", "*/", "d", "e"], 0, 1, ["/*"], 3)
        self.count(["a", "b", "c", "/*", "e"], 0, 1, ["/*"], 5)
        self.count(["/*", "b", "*/", "d", "e"], 0, 1, ["a"], 3)
        self.count(["/*", "b", "*/", "d", "e"], 1, 2, ["c"], 3)

    def test_as_many_modes_with_the_same_on_top_and_others_below(self):
        rows = ["({", "x", "}", "y", ")", "z"]
        self.count(rows, 0, 1, ["[{"], 6)
        self.count(rows, 0, 1, ["[a{"], 6)
        self.count(rows[:4] + ["])", "z"], 0, 1, ["[{"], 5)
        self.count(["({", "x"], 0, 1, ["[{"], 2)
        watched = self.watched(rows)
        watched.change(0, 1, ["[{"])
        self.assertEqual(watched.tinted.begin(1), [0, 3, 4])
        self.assertEqual(watched.tinted.colours(3), ["brown"])

    def test_more_or_fewer_of_the_same_mode(self):
        self.count(["/*", "a", "*/", "b"], 0, 1, ["/*/*"], 4)
        self.count(["/*/*", "a", "*/", "b"], 0, 1, ["/*"], 4)

    def test_rows_put_in(self):
        self.count(["a", "b", "c"], 1, 0, ["x"], 1)
        self.count(["a", "b", "c"], 1, 0, ["x", "y"], 2)
        self.count(["a", "b", "c"], 1, 0, ["/*"], 3)
        self.count(["a", "b", "c"], 1, 0, ["/*", "*/"], 2)
        self.count(["a", "b", "c"], 3, 0, ["/*", "d"], 2)
        self.count(["a", "b", "c"], 0, 0, ["a"], 1)

    def test_rows_taken_out(self):
        self.count(["a", "b", "c"], 1, 1, [], 0)
        self.count(["a", "/*", "b", "*/", "c"], 1, 1, [], 2)
        self.count(["a", "/*", "b", "*/", "c"], 1, 3, [], 0)
        self.count(["a", "/*", "b", "*/", "c"], 3, 1, [], 1)
        self.count(["a", "/*", "b"], 1, 2, [], 0)

    def test_the_very_texts_from_the_first_one_on(self):
        self.count(["a", "b", "c", "d"], 0, 3, ["a", "b", "x"], 1)
        self.count(["a", "b", "c", "d"], 0, 3, ["a", "b"], 0)
        self.count(["a", "b", "c", "d"], 0, 3, ["a", "b", "c", "x"], 1)
        self.count(["/*", "b", "c", "d"], 0, 2, ["/*", "*/"], 3)
        self.count(["a", "b", "c", "d"], 2, 2, ["c", "x"], 1)

    def test_the_very_texts_from_the_last_one_back(self):
        self.count(["a", "b", "c", "d"], 0, 3, ["x", "b", "c"], 1)
        self.count(["a", "b", "c", "d"], 0, 3, ["b", "c"], 0)
        self.count(["a", "b", "c", "d"], 0, 3, ["x", "a", "b", "c"], 1)
        self.count(["a", "b", "c", "d"], 0, 3, ["/*", "b", "c"], 4)
        self.count(["a", "b", "*/", "d"], 0, 4, ["/*", "b", "*/", "d"], 3)

    def test_the_very_texts_from_both_ends(self):
        self.count(["a", "b", "c", "d"], 0, 4, ["a", "x", "y", "d"], 2)
        self.count(["a", "b", "c", "d"], 0, 4, ["a", "d"], 0)
        self.count(["a", "b", "c", "d"], 0, 4, ["a", "b", "x", "c", "d"], 1)
        self.count(["a", "b", "c", "d"], 0, 4, ["a", "/*", "c", "d"], 3)

    def test_the_very_texts_alone(self):
        self.count(ROWS, 0, len(ROWS), ROWS, 0)
        self.count(ROWS, 2, 3, ROWS[2:5], 0)

    def test_a_text_counts_once_from_one_of_both_ends(self):
        self.count(["a", "a"], 0, 2, ["a"], 0)
        self.count(["a"], 0, 1, ["a", "a"], 1)
        self.count(["a", "a", "a"], 0, 2, ["a", "a", "a"], 1)
        self.count(["/*", "/*", "b"], 0, 2, ["/*"], 1)
        self.count(["/*", "b"], 0, 1, ["/*", "/*"], 2)
        self.count(["a", "b", "a"], 0, 3, ["a", "b", "a", "b", "a"], 2)

    def test_a_text_in_the_middle_alone_counts_as_changed(self):
        self.count(["a", "b", "c"], 0, 3, ["x", "b", "y"], 3)

    def test_a_row_whose_beginning_modes_came_back_is_left(self):
        watched = self.watched(["a", "b", "c"])
        self.assertEqual(watched.change(0, 1, ["/*"]), 3)
        self.assertEqual(watched.change(0, 1, ["/* x"]), 1)
        self.assertEqual(watched.change(0, 1, ["1/*"]), 1)
        self.assertEqual(watched.change(0, 1, ["a"]), 3)
        self.assertEqual(watched.change(0, 0, ["/*", "*/"]), 2)


class Spy(Pattern):
    """Fits nowhere, and keeps the rows that it is asked of."""

    def __init__(self):
        self.seen = {}

    def eaten(self, row, at):
        self.seen[row] = True
        return None


class GoneOver(unittest.TestCase):
    """The rows that are really gone over are those that are counted."""

    def setUp(self):
        rules = read_rules("mode a x\nend stay\nword '/* red into b\nmode b y\nend stay\nword '*/ red into a")
        self.spy = Spy()
        for mode in rules.modes:
            mode.rules[0].pattern = self.spy
        self.tinted = Tinted(rules, ["k", "l", "m", "*/", "n", "o"])

    def check(self, count, seen):
        self.assertEqual(list(self.spy.seen), seen)
        self.assertEqual(count, len(seen))
        self.spy.seen.clear()

    def test_none_but_those(self):
        self.spy.seen.clear()
        self.check(self.tinted.change(1, 1, ["p"]), ["p"])
        self.check(self.tinted.change(1, 1, ["/*"]), ["/*", "m", "*/"])
        self.check(self.tinted.change(0, 3, ["k", "q", "m"]), ["q", "m", "*/"])
        self.check(self.tinted.change(6, 0, ["r", "s"]), ["r", "s"])
        self.check(self.tinted.change(6, 2, []), [])
        self.check(self.tinted.change(3, 1, ["/*"]), ["/*", "n", "o"])
        self.check(self.tinted.change(6, 0, ["t"]), ["t"])
        self.check(self.tinted.change(3, 1, []), ["n", "o", "t"])
        self.check(self.tinted.put(1, 1, "u\nv"), ["qu", "v"])
        self.check(self.tinted.put(1, 1, ""), [])
        self.check(self.tinted.cut(1, 1, 2, 1), ["q"])
        self.check(self.tinted.cut(1, 1, 1, 1), [])

    def test_asking_goes_over_none(self):
        self.spy.seen.clear()
        for row in range(6):
            self.tinted.begin(row)
            self.tinted.colours(row)
            self.tinted.marks(row)
        self.tinted.rows()
        self.tinted.part(0, 0, 5, 1)
        self.check(0, [])


class PutAndCut(Base):
    def test_put_in_one_row(self):
        for text in ("x", "12", "/*", "*/", '"', "("):
            for row, signs in enumerate(ROWS):
                for at in range(len(signs) + 1):
                    self.watched(ROWS).put(row, at, text)

    def test_put_with_line_ends(self):
        for text in ("\n", "\n\n", "x\n", "\nx", "x\ny", "x\n\ny", "/*\n", "\n*/\n", "(\n{\n}\n)", "\n\n\nx\n\n"):
            for row, signs in enumerate(ROWS):
                for at in range(len(signs) + 1):
                    self.watched(ROWS).put(row, at, text)

    def test_rows_behind_a_put(self):
        watched = self.watched(["abc", "d"])
        watched.put(0, 1, "\nx\n\n")
        self.assertEqual(watched.tinted.rows(), ["a", "x", "", "bc", "d"])
        watched.put(4, 1, "\n")
        self.assertEqual(watched.tinted.rows(), ["a", "x", "", "bc", "d", ""])

    def test_how_many_a_put_goes_over(self):
        self.assertEqual(self.watched(["abc", "d"]).put(0, 1, "x"), 1)
        self.assertEqual(self.watched(["abc", "d"]).put(0, 1, "\n"), 2)
        self.assertEqual(self.watched(["abc", "d"]).put(0, 0, "\n"), 1)
        self.assertEqual(self.watched(["abc", "d"]).put(0, 3, "\n"), 1)
        self.assertEqual(self.watched(["abc", "d"]).put(0, 3, "\n\n"), 2)
        self.assertEqual(self.watched(["abc", "d"]).put(0, 0, "x\n"), 1)
        self.assertEqual(self.watched(["abc", "d"]).put(0, 0, "/*\n"), 3)
        self.assertEqual(self.watched(["abc", "d"]).put(0, 0, "abc\n"), 1)

    def test_cut_in_one_row_and_over_several(self):
        places = [(row, at) for row, signs in enumerate(ROWS) for at in range(len(signs) + 1)]
        for number, first in enumerate(places):
            for second in places[number:]:
                self.watched(ROWS).cut(first[0], first[1], second[0], second[1])

    def test_rows_behind_a_cut(self):
        watched = self.watched(["abc", "def", "", "ghi"])
        watched.cut(0, 1, 3, 2)
        self.assertEqual(watched.tinted.rows(), ["ai"])
        watched.cut(0, 0, 0, 2)
        self.assertEqual(watched.tinted.rows(), [""])
        watched.cut(0, 0, 0, 0)
        self.assertEqual(watched.tinted.rows(), [""])

    def test_how_many_a_cut_goes_over(self):
        self.assertEqual(self.watched(["abc", "d", "e"]).cut(0, 1, 0, 2), 1)
        self.assertEqual(self.watched(["abc", "d", "e"]).cut(0, 1, 1, 0), 1)
        self.assertEqual(self.watched(["abc", "d", "e"]).cut(0, 0, 1, 0), 0)
        self.assertEqual(self.watched(["abc", "d", "e"]).cut(0, 3, 1, 1), 0)
        self.assertEqual(self.watched(["/*", "d", "*/", "e"]).cut(0, 0, 1, 0), 2)
        self.assertEqual(self.watched(["/*", "d", "*/", "e"]).cut(0, 1, 0, 2), 3)

    def test_nothing_put_in_or_taken_out(self):
        watched = self.watched(ROWS)
        for row, signs in enumerate(ROWS):
            for at in range(len(signs) + 1):
                self.assertEqual(watched.put(row, at, ""), 0)
                self.assertEqual(watched.cut(row, at, row, at), 0)

    def test_what_is_put_in_can_be_cut_again(self):
        watched = self.watched(ROWS)
        watched.put(1, 1, "/*\nq")
        watched.cut(1, 1, 2, 1)
        self.assertEqual(watched.tinted.rows(), ROWS)

    def test_part(self):
        watched = self.watched(ROWS)
        places = [(row, at) for row, signs in enumerate(ROWS) for at in range(len(signs) + 1)]
        for number, first in enumerate(places):
            for second in places[number:]:
                watched.part(first[0], first[1], second[0], second[1])

    def test_part_by_example(self):
        tinted = Tinted(read_rules(RULES), ["abcd", "", "efg"])
        self.assertEqual(tinted.part(0, 1, 0, 3), "bc")
        self.assertEqual(tinted.part(0, 1, 0, 1), "")
        self.assertEqual(tinted.part(0, 4, 1, 0), "\n")
        self.assertEqual(tinted.part(0, 3, 2, 1), "d\n\ne")
        self.assertEqual(tinted.part(0, 0, 2, 3), "abcd\n\nefg")


class Kept(Base):
    def test_told_lists_are_the_askers_own(self):
        watched = self.watched(ROWS)
        tinted = watched.tinted
        for row in range(len(ROWS)):
            for tell in (tinted.begin, tinted.colours, tinted.marks):
                told = tell(row)
                self.assertIs(type(told), list)
                told.append("x")
                told[0] = "y"
                watched.check()
        tinted.rows().clear()
        watched.check()
        watched.change(0, 1, ["/*"])

    def test_told_lists_do_not_change_later(self):
        tinted = Tinted(read_rules(RULES), ["/*", "a", "(1"])
        told = [tinted.rows(), tinted.begin(1), tinted.colours(0), tinted.marks(0), tinted.begin(2)]
        kept = [list(part) for part in told]
        tinted.change(0, 1, ["(", "b"])
        tinted.put(1, 0, "x\n")
        tinted.cut(0, 0, 1, 1)
        self.assertEqual(told, kept)

    def test_nothing_hangs_on_the_rows_handed_in(self):
        rows = list(ROWS)
        tinted = Tinted(read_rules(RULES), rows)
        watched = Watched(self, tinted, RULES, ROWS)
        self.assertEqual(rows, ROWS)
        rows[0] = "/*"
        rows.pop()
        watched.check()
        watched.change(1, 1, ["q", "/*"])

    def test_nothing_hangs_on_the_rules_handed_in(self):
        rules = read_rules(RULES)
        watched = Watched(self, Tinted(rules, list(ROWS)), RULES, ROWS)
        self.assertEqual(shown_rules(rules), RULES)
        for mode in rules.modes:
            mode.colour = "other"
            for rule in mode.rules:
                rule.colour = "other"
                rule.deed = "pop"
                rule.goal = None
                rule.fold = "open"
            mode.rules.reverse()
        watched.change(0, 2, ["/*", "(1{"])
        rules.modes[0].rules.clear()
        rules.modes.reverse()
        watched.change(0, 2, ["(", "/*2"])
        rules.modes.clear()
        watched.put(1, 1, "\n[")

    def test_changes_leave_the_rules_as_they_are(self):
        rules = read_rules(RULES)
        tinted = Tinted(rules, list(ROWS))
        tinted.change(0, 1, ["/*"])
        tinted.put(0, 1, "a\nb")
        tinted.cut(0, 0, 1, 1)
        self.assertEqual(shown_rules(rules), RULES)

    def test_two_texts_by_the_same_rules_share_nothing(self):
        rules = read_rules(RULES)
        first = Watched(self, Tinted(rules, list(ROWS)), RULES, ROWS)
        second = Watched(self, Tinted(rules, list(ROWS)), RULES, ROWS)
        first.change(0, 3, ["/*"])
        second.check()
        second.change(2, 3, ["("])
        first.check()


class ByChance(Base):
    PIECES = ["a", "b", " ", "c", "ab", "ba", "a b", "", "aa", "bb"]

    def some_row(self, chance):
        return "".join([chance.choice(self.PIECES) for turn in range(chance.randint(0, 3))])

    def some_rows(self, chance, least):
        return [self.some_row(chance) for turn in range(chance.randint(least, 4))]

    def some_change(self, chance, watched):
        rows = watched.rows
        row = chance.randrange(len(rows) + 1)
        many = chance.randint(0, min(3, len(rows) - row))
        new = self.some_rows(chance, 0)
        if chance.randrange(2):
            # Rows that are partly those taken out.
            new = rows[row : row + many]
            new[chance.randint(0, len(new)) : chance.randint(0, len(new))] = self.some_rows(chance, 0)
        if len(rows) - many + len(new) > 0:
            watched.change(row, many, new)

    def some_places(self, chance, watched):
        places = [(row, at) for row, signs in enumerate(watched.rows) for at in range(len(signs) + 1)]
        return sorted([chance.choice(places), chance.choice(places)])

    def some_deed(self, chance, watched):
        deed = chance.randrange(4)
        first, second = self.some_places(chance, watched)
        if deed == 0:
            watched.put(first[0], first[1], "\n".join(self.some_rows(chance, 1)))
        elif deed == 1:
            watched.part(first[0], first[1], second[0], second[1])
            watched.cut(first[0], first[1], second[0], second[1])
        else:
            self.some_change(chance, watched)

    def test_as_the_plain_reading(self):
        chance = random.Random(14)
        ended = 0
        while ended < 120:
            text = some_rules(chance, 2)
            rules = read_rules(text)
            if ring_of(rules) is not None:
                continue
            ended += 1
            rows = self.some_rows(chance, 1)
            watched = Watched(self, Tinted(rules, list(rows)), text, rows)
            for turn in range(15):
                self.some_deed(chance, watched)

    def test_nested_remarks(self):
        chance = random.Random(15)
        pieces = ["/*", "*/", "(", ")", "[", "]", "{", "}", '"', "1", "x", "\n", "\n"]
        watched = self.watched(ROWS)
        for turn in range(300):
            first, second = self.some_places(chance, watched)
            if len(watched.rows) > 12:
                watched.cut(first[0], first[1], second[0], second[1])
            else:
                text = "".join([chance.choice(pieces) for piece in range(chance.randint(0, 6))])
                watched.put(first[0], first[1], text)


if __name__ == "__main__":
    unittest.main()
