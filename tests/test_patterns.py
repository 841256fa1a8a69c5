"""The patterns by which the rules are told."""

import unittest

from unithouse.patterns import filled, held_by, told_over


class PatternsTest(unittest.TestCase):
    def test_held_by(self):
        self.assertEqual(held_by("A", (1, 2)), {"A": (1, 2)})
        self.assertEqual(held_by(("pair", "A", "B"), ("pair", 1, 2)), {"A": 1, "B": 2})
        self.assertEqual(held_by(("pair", "A", "A"), ("pair", 1, 1)), {"A": 1})
        self.assertEqual(held_by((), ()), {})
        self.assertEqual(held_by((0, ("X",)), (0, (0,))), {"X": 0})

    def test_what_does_not_have_the_pattern(self):
        for pattern, value in ((("pair", "A", "A"), ("pair", 1, 2)), (("pair", "A"), ("either", 1)), ((0, "X"), (1, 5)),
                               (("A", "B"), (1,)), (("A", "B"), (1, 2, 3)), (("A",), 5), ((), 0), ((), (0,)), (0, ()),
                               ((0, (0, "X")), (0, 5)), (("A", ("A",)), (1, (2,)))):
            self.assertIsNone(held_by(pattern, value), (pattern, value))
            self.assertIsNone(told_over(pattern, value, ()))

    def test_filled(self):
        self.assertEqual(filled(("list", "M", ("A", 0)), {"M": 2, "A": ("one",)}), ("list", 2, (("one",), 0)))
        self.assertEqual(filled("X", {"X": 0}), 0)
        self.assertIsNone(filled(("pair", "A", ("B",)), {"A": 1}))
        self.assertIsNone(filled("A", {}))

    def test_told_over(self):
        self.assertEqual(told_over(("X", "Y"), (1, 2), ("Y", "X")), (2, 1))
        self.assertIsNone(told_over(("X", 0), (1, 0), ("X", "Y")))
