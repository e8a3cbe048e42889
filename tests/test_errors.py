"""Point 3: the refusals."""

import unittest

from graftsay.errors import (
    GraftError, NoKey, NoLine, NoPlace, NoPlan, NoRow, NoText, NoTree, TooMany, Twice, TwoSided,
)

MADE = [
    (NoPlace, ((0, 3),), {"place": (0, 3)}),
    (NoPlace, ((),), {"place": ()}),
    (NoText, (7,), {"at": 7}),
    (NoText, (0,), {"at": 0}),
    (NoKey, (400,), {"number": 400}),
    (Twice, ("k1",), {"key": "k1"}),
    (NoTree, ("k2", "feet"), {"key": "k2", "word": "feet"}),
    (NoRow, (5,), {"row": 5}),
    (TooMany, (1000,), {"most": 1000}),
    (TwoSided, ("k3",), {"key": "k3"}),
    (NoPlan, ("there is no plan",), {}),
    (NoLine, ("there is no such row",), {}),
]
CLASSES = [NoPlace, NoText, NoKey, Twice, NoTree, NoRow, TooMany, TwoSided, NoPlan, NoLine]


class Refusals(unittest.TestCase):
    def test_the_ten_stand_straight_under_the_base(self):
        self.assertEqual(GraftError.__bases__, (ValueError,))
        for one in CLASSES:
            self.assertEqual(one.__bases__, (GraftError,), one)

    def test_each_is_of_its_own_class_alone(self):
        self.assertEqual({made for made, parts, fields in MADE}, set(CLASSES))
        for made, parts, fields in MADE:
            error = made(*parts)
            self.assertIsInstance(error, GraftError)
            self.assertIsInstance(error, ValueError)
            for other in CLASSES:
                self.assertEqual(isinstance(error, other), other is made, (made, other))

    def test_fields_hold_what_they_were_made_of(self):
        for made, parts, fields in MADE:
            error = made(*parts)
            for field, worth in fields.items():
                self.assertEqual(getattr(error, field), worth, (made, field))
                self.assertIs(type(getattr(error, field)), type(worth))

    def test_each_can_be_raised_and_caught_by_its_own_class(self):
        for made, parts, fields in MADE:
            with self.assertRaises(made) as caught:
                raise made(*parts)
            self.assertIs(type(caught.exception), made)
            self.assertIsInstance(str(caught.exception), str)


if __name__ == "__main__":
    unittest.main()
