"""Rings: points 3 and 10."""

import itertools
import random
import unittest

from tests.plain import SIGNS, has_endless, is_ring, plain_modes, some_rules
from tintrow.errors import Rings, TintError
from tintrow.going import gone_over
from tintrow.looking import ask_rings, ring_of
from tintrow.reading import read_rules, shown_rules

LETTERS = "abcdefghijkl"


def chain(deeds, idle):
    """Modes a, b, .. of one rule each, that eats nothing and has one of these deeds."""
    return "\n".join([f"mode {letter} x\n{idle} {deed}" for letter, deed in zip(LETTERS, deeds)])


class Base(unittest.TestCase):
    def ring(self, text):
        """The modes, in their names' order, and the sign of a ring of rules that have one, asked in both ways and walked."""
        rules = read_rules(text)
        with self.subTest(text=text):
            told = ring_of(rules)
            self.assertIs(type(told), tuple)
            self.check_ring(text, told[0], told[1])
            with self.assertRaises(Rings) as taken:
                ask_rings(rules)
            self.assertIsInstance(taken.exception, TintError)
            self.check_ring(text, taken.exception.ring, taken.exception.sign)
            self.assertEqual(shown_rules(rules), text)
            return (sorted(set(told[0])), told[1])
        return ([], None)

    def check_ring(self, text, ring, sign):
        self.assertIs(type(ring), list)
        self.assertIn(type(sign), (str, type(None)))
        self.assertTrue(is_ring(plain_modes(text), ring, sign), (text, ring, sign))

    def let(self, text):
        rules = read_rules(text)
        with self.subTest(text=text):
            self.assertIsNone(ring_of(rules))
            self.assertIsNone(ask_rings(rules))
            self.assertEqual(shown_rules(rules), text)
            self.goes_over(rules)

    def goes_over(self, rules):
        """Rows of each sign, and one without signs, come to an end from all lists of up to two modes."""
        modes = range(len(rules.modes))
        heaps = [[one] for one in modes] + [[one, other] for one in modes for other in modes]
        for row in [""] + SIGNS:
            for on in heaps:
                self.assertEqual(len(gone_over(rules, on, row)[0]), len(row))


class OneMode(Base):
    def test_that_rests_on_itself(self):
        for deed in ("stay", "into a", "push a"):
            self.assertEqual(self.ring(f"mode a x\nstill {deed}")[0], ["a"])
            self.assertEqual(self.ring(f"mode a x\nend {deed}"), (["a"], None))
            self.assertEqual(self.ring(f"mode s x\nmode a x\nstill {deed}")[0], ["a"])
            self.assertEqual(self.ring(f"mode s x\nmode a x\nend {deed}"), (["a"], None))

    def test_the_start_mode_that_pops_itself(self):
        self.assertEqual(self.ring("mode s x\nend pop"), (["s"], None))
        self.assertEqual(self.ring("mode s x\nstill pop")[0], ["s"])
        self.assertEqual(self.ring("mode s x\nstill pop\nmode t x\nany red stay")[0], ["s"])

    def test_another_one_that_pops_itself_is_let(self):
        self.let("mode s x\nmode t x\nstill pop\nend pop")
        self.let("mode s x\nany red push t\nmode t x\nstill pop\nend pop\nmode u x\nstill pop\nend pop")

    def test_without_rules_that_eat_nothing(self):
        self.let("mode a x")
        self.let("mode a x\nany red push a\nmode b x\nany red pop")
        self.let("mode a x\nword 'a red stay\none 'a red into a\nnone 'b red pop\nmany 'a red stay")

    def test_a_mode_that_is_never_on_counts_too(self):
        self.assertEqual(self.ring("mode s x\nany red stay\nmode t x\nend stay"), (["t"], None))


class SeveralModes(Base):
    def test_two_that_go_to_one_another(self):
        for idle in ("still", "end"):
            for one, other in itertools.product(("into", "push"), repeat=2):
                self.assertEqual(self.ring(chain([f"{one} b", f"{other} a"], idle))[0], ["a", "b"])

    def test_a_push_and_a_pop_begin_with_the_mode_that_pushes(self):
        for idle in ("still", "end"):
            self.assertEqual(self.ring(f"mode a x\n{idle} push b\nmode b x\n{idle} pop")[0], ["a", "b"])
            self.assertIn("b", self.ring(f"mode b x\n{idle} pop\nmode a x\n{idle} push b\nmode c x")[0])
            # Here the start mode eats all, so that it has no ring of its own.
            text = f"mode s x\nany red stay\nmode b x\n{idle} pop\nmode a x\n{idle} push b"
            self.assertEqual(self.ring(text)[0], ["a", "b"])

    def test_a_pop_of_the_mode_alone_begins_with_the_start_mode(self):
        for idle in ("still", "end"):
            self.assertEqual(self.ring(f"mode a x\n{idle} into b\nmode b x\n{idle} pop")[0], ["a", "b"])
            text = f"mode a x\n{idle} into c\nmode b x\n{idle} pop\nmode c x\n{idle} into b"
            self.assertEqual(self.ring(text)[0], ["a", "b", "c"])

    def test_a_pop_in_the_place_of_another_mode_is_let(self):
        for idle in ("still", "end"):
            self.let(f"mode s x\nmode a x\n{idle} into b\nmode b x\n{idle} pop")

    def test_a_pop_that_lays_bare_a_mode_pushed_within(self):
        for idle in ("still", "end"):
            text = f"mode s x\nany red stay\nmode a x\n{idle} push b\nmode b x\n{idle} push c\nmode c x\n{idle} pop"
            self.assertEqual(self.ring(text)[0], ["b", "c"])
            text = f"mode s x\nmode a x\n{idle} push b\nmode b x\n{idle} push c\nmode c x\n{idle} into d\nmode d x\n{idle} pop"
            self.assertEqual(self.ring(text)[0], ["b", "c", "d"])

    def test_in_whatever_order_the_modes_stand(self):
        for deeds, expected in (
            ({"s": "into p", "p": "push b", "b": "pop"}, ["b", "p"]),
            ({"s": "push p", "p": "push b", "b": "into c", "c": "pop"}, ["b", "c", "p"]),
            ({"s": "into p", "p": "into b", "b": "pop"}, ["b", "p", "s"]),
            ({"s": "into p", "p": "into b", "b": "push c", "c": "pop"}, ["b", "c"]),
            ({"s": "into p", "p": "into b", "b": "push p"}, ["b", "p"]),
            ({"s": "into p", "p": "push b", "b": "push c", "c": "into b"}, ["b", "c"]),
        ):
            for idle in ("still", "end"):
                for others in itertools.permutations([name for name in deeds if name != "s"]):
                    text = "\n".join([f"mode {name} x\n{idle} {deeds[name]}" for name in ("s",) + others])
                    self.assertEqual(self.ring(text)[0], expected)

    def test_a_way_into_a_ring_is_no_part_of_it(self):
        for idle in ("still", "end"):
            for deed in ("into", "push"):
                text = chain([f"{deed} b", f"{deed} c", f"{deed} d", f"{deed} c"], idle)
                self.assertEqual(self.ring(text)[0], ["c", "d"])
                text = chain([f"{deed} b", f"{deed} c", "stay"], idle)
                self.assertEqual(self.ring(text)[0], ["c"])

    def test_long_rings(self):
        for idle in ("still", "end"):
            for length in range(2, 13):
                for deeds in (["into"], ["push"], ["into", "push"]):
                    going = [f"{deeds[at % len(deeds)]} {LETTERS[(at + 1) % length]}" for at in range(length)]
                    self.assertEqual(self.ring(chain(going, idle))[0], list(LETTERS[:length]))

    def test_long_rings_that_end_with_a_pop(self):
        for idle in ("still", "end"):
            for length in range(3, 13):
                into = [f"into {LETTERS[at + 1]}" for at in range(length - 1)]
                self.assertEqual(self.ring(chain(into + ["pop"], idle))[0], list(LETTERS[:length]))
                push = ["push b"] + into[1:]
                self.assertEqual(self.ring(chain(push + ["pop"], idle))[0], list(LETTERS[:length]))
            # Eleven modes behind a start mode that is no part of them.
            push = "\n".join([f"mode {LETTERS[at]} x\n{idle} into {LETTERS[at + 1]}" for at in range(2, 11)])
            text = f"mode a x\nmode b x\n{idle} push c\n{push}\nmode l x\n{idle} pop"
            self.assertEqual(self.ring(text)[0], list(LETTERS[1:12]))

    def test_a_long_way_without_ring_is_let(self):
        for idle in ("still", "end"):
            for deed in ("into", "push"):
                going = [f"{deed} {LETTERS[at + 1]}" for at in range(11)]
                self.let(chain(going, idle) + "\nmode l x")
                self.let(chain(going, idle) + "\nmode l x\nany red pop")
            into = [f"into {LETTERS[at + 1]}" for at in range(1, 11)]
            rows = "\n".join([f"mode {LETTERS[at + 1]} x\n{idle} {deed}" for at, deed in enumerate(into)])
            self.let(f"mode a x\nany red push b\n{rows}\nmode l x\n{idle} pop")


class AtSomeSigns(Base):
    def test_at_one_sign_alone(self):
        for sign in SIGNS:
            if sign != "_":
                named = "_" if sign == " " else sign
                self.assertEqual(self.ring(f"mode a x\nnone '{named} red stay\nstill stay"), (["a"], sign))

    def test_at_the_low_line_alone(self):
        named = "".join([sign for sign in SIGNS if sign not in " _"])
        self.assertEqual(self.ring(f"mode a x\none '{named}_ red stay\nstill stay"), (["a"], "_"))
        self.assertEqual(self.ring(f"mode a x\nmany '{named}_ red stay\nstill stay"), (["a"], "_"))

    def test_at_one_sign_that_two_modes_share(self):
        text = "mode a x\nnone 'kl red stay\nstill into b\nmode b x\nnone 'lm red stay\nstill into a"
        self.assertEqual(self.ring(text), (["a", "b"], "l"))
        text = "mode a x\nnone 'kl red stay\nstill into b\nmode b x\none 'kl red stay\nstill into a"
        self.let(text)

    def test_at_the_end_alone(self):
        self.assertEqual(self.ring("mode a x\nany red stay\nend stay"), (["a"], None))
        self.assertEqual(self.ring("mode a x\nend stay"), (["a"], None))
        self.assertEqual(self.ring("mode a x\nend push b\nmode b x\nany red stay\nend pop"), (["a", "b"], None))

    def test_not_at_the_end(self):
        for deed in ("stay", "pop", "push a", "into a"):
            self.assertIsNotNone(self.ring(f"mode a x\nstill {deed}")[1])

    def test_cut_by_a_rule_ahead_that_eats(self):
        for ahead in ("any red stay", "any red push a", "none 'a red stay\none 'a red stay", "none 'a red pop\nmany 'ab red pop"):
            self.let(f"mode a x\n{ahead}\nstill stay")
            self.let(f"mode a x\nstill into b\nend into b\nmode b x\n{ahead}\nstill into a")
        self.let("mode a x\nnone 'a red stay\nword 'a red stay\nstill stay")

    def test_a_rule_behind_does_not_cut(self):
        self.assertEqual(self.ring("mode a x\nstill stay\nany red stay")[0], ["a"])
        self.assertEqual(self.ring("mode a x\nend stay\nend into b\nmode b x"), (["a"], None))

    def test_cut_by_a_rule_ahead_that_goes_elsewhere(self):
        self.let("mode a x\nend into b\nend stay\nmode b x")
        self.let("mode a x\nstill into b\nstill stay\nmode b x\nany red into a")

    def test_what_only_goes_on_to_other_modes_is_let(self):
        self.let("mode a x\nstill push b\nend into c\nmode b x\nany red pop\nmode c x")
        self.let("mode a x\nstill into b\nmode b x\nnone 'x red into a\nmode c x\nend push a\nstill pop")

    def test_a_ring_at_a_sign_and_an_end_in_one_another_is_let(self):
        self.let("mode a x\nstill into b\nmode b x\nend into a")

    def test_a_word_of_several_signs_does_not_cut(self):
        self.assertEqual(self.ring("mode a x\nnone 'k red stay\nword 'kl red stay\nstill stay"), (["a"], "k"))
        self.assertEqual(self.ring("mode a x\nnone 'k red stay\nword 'kk red stay\nstill stay"), (["a"], "k"))
        self.let("mode a x\nnone 'k red stay\nword 'kl red stay\nword 'k red stay\nstill stay")

    def test_all_signs_are_eaten(self):
        named = "".join([sign for sign in SIGNS if sign not in " _"])
        self.let(f"mode a x\none '{named}_ red stay\nnone '{named}_ red stay\nstill stay")


class ByChance(Base):
    def test_as_the_plain_reading(self):
        chance = random.Random(10)
        told = {True: 0, False: 0}
        for turn in range(600):
            text = some_rules(chance, 2 + turn % 6)
            rules = read_rules(text)
            modes = plain_modes(text)
            found = ring_of(rules)
            # A sign that no rule names stands for all such.
            self.assertEqual(found is not None, has_endless(modes, "ab c"), text)
            told[found is not None] += 1
            if found is not None:
                self.assertTrue(is_ring(modes, found[0], found[1]), (text, found))
                with self.assertRaises(Rings):
                    ask_rings(rules)
            else:
                self.assertIsNone(ask_rings(rules), text)
        self.assertGreater(min(told.values()), 100)

    def test_modes_of_one_rule_that_eats_nothing(self):
        chance = random.Random(17)
        for turn in range(1500):
            names = LETTERS[: chance.randint(1, 6)]
            deeds = [chance.choice(["stay", "pop", "pop", "push", "into", "into"]) for name in names]
            going = [f"{deed} {chance.choice(names)}" if deed in ("push", "into") else deed for deed in deeds]
            # One mode in six eats nothing at a sign, and does nothing at the end.
            idle = [chance.choice(["end"] * 5 + ["still"]) for name in names]
            text = "\n".join([f"mode {name} x\n{kind} {deed}" for name, kind, deed in zip(names, idle, going)])
            modes = plain_modes(text)
            found = ring_of(read_rules(text))
            self.assertEqual(found is not None, has_endless(modes, "a"), text)
            if found is not None:
                self.assertTrue(is_ring(modes, found[0], found[1]), (text, found))

    def test_what_is_let_by_ends(self):
        chance = random.Random(3)
        ended = 0
        while ended < 60:
            rules = read_rules(some_rules(chance, 4))
            if ring_of(rules) is not None:
                continue
            ended += 1
            for turn in range(20):
                on = [chance.randrange(len(rules.modes)) for mode in range(chance.randint(1, 6))]
                row = "".join([chance.choice("ab c") for sign in range(chance.randint(0, 12))])
                self.assertEqual(len(gone_over(rules, on, row)[0]), len(row))


class ToldAnew(unittest.TestCase):
    def test_the_list_is_the_askers_own(self):
        rules = read_rules("mode a x\nend into b\nmode b x\nend into a")
        ring_of(rules)[0].clear()
        self.assertEqual(set(ring_of(rules)[0]), {"a", "b"})
        with self.assertRaises(Rings) as taken:
            ask_rings(rules)
        taken.exception.ring.clear()
        self.assertEqual(set(ring_of(rules)[0]), {"a", "b"})
        self.assertEqual([mode.name for mode in rules.modes], ["a", "b"])


if __name__ == "__main__":
    unittest.main()
