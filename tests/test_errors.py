"""The refusals: points 2 and the interface's tintrow/errors.py."""

import unittest

from tintrow.errors import NoLine, NoMark, NoPlace, NoRules, Nothing, Rings, TintError

REFUSALS = [NoRules, Rings, NoPlace, Nothing, NoMark, NoLine]
MADE_OF = {NoRules: (3, 4), Rings: (["a", "b"], "x")}


def made(refusal):
    return refusal(*MADE_OF.get(refusal, ("some words",)))


class Classes(unittest.TestCase):
    def test_each_is_taken_by_the_base_and_by_value_error(self):
        for refusal in REFUSALS:
            for taker in (TintError, ValueError):
                with self.subTest(refusal=refusal, taker=taker):
                    with self.assertRaises(taker):
                        raise made(refusal)

    def test_none_is_taken_by_another_one(self):
        for refusal in REFUSALS:
            for other in REFUSALS:
                with self.subTest(refusal=refusal, other=other):
                    self.assertEqual(isinstance(made(refusal), other), refusal is other)

    def test_the_base_is_a_value_error_and_none_of_the_six(self):
        self.assertTrue(issubclass(TintError, ValueError))
        for refusal in REFUSALS:
            self.assertFalse(issubclass(TintError, refusal))


class Fields(unittest.TestCase):
    def test_no_rules_has_row_and_word(self):
        for row, word in [(0, 0), (3, 4), (4, 3), (399, 0)]:
            refusal = NoRules(row, word)
            self.assertEqual((refusal.row, refusal.word), (row, word))

    def test_rings_has_ring_and_sign(self):
        for ring, sign in [(["a"], "x"), (["a", "b"], " "), (["b", "a", "c"], None)]:
            refusal = Rings(ring, sign)
            self.assertEqual(refusal.ring, ring)
            self.assertIs(type(refusal.ring), list)
            self.assertEqual(refusal.sign, sign)
        self.assertIsNone(Rings(["a"], None).sign)

    def test_rings_does_not_hang_on_the_list_it_was_made_of(self):
        ring = ["a", "b"]
        refusal = Rings(ring, None)
        words = str(refusal)
        ring.append("c")
        self.assertEqual(refusal.ring, ["a", "b"])
        self.assertEqual(str(refusal), words)
        refusal.ring.clear()
        self.assertEqual(ring, ["a", "b", "c"])

    def test_the_others_are_made_of_a_text(self):
        for refusal in (NoPlace, Nothing, NoMark, NoLine):
            for text in ("some words", "x", ""):
                with self.subTest(refusal=refusal, text=text):
                    with self.assertRaises(refusal):
                        raise refusal(text)


if __name__ == "__main__":
    unittest.main()
