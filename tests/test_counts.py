"""Points 2, 3, 4 and 17: how many whole plans build a row, and which."""

import time
import unittest

from graftsay.building import row_of
from graftsay.counts import many_read, plans_read
from graftsay.errors import GraftError, TooMany
from graftsay.plans import is_plan, is_whole
from tests.support import (
    A, B, BOUNDED, BOUNDED_PLANS, DENSE, ENDLESS, ROUNDS, Great, chance_book, knot, many_of_signs, rows_and_plans,
)

FOOT = ("foot", "M")
# Which tree stands where can be told apart by nothing but the keys here.
TWINS = ("S", (
    ("s", knot("S", A, ("hole", "S"))),
    ("s0", knot("S", A, takes=("M", False))),
    ("s10", knot("S", A)),
    ("s1", knot("S", A, takes=("M", True))),
    ("m", knot("X", A, FOOT)),
    ("m1", knot("X", FOOT, A, takes=("M", False))),
))


def one_letter(book):
    """A book with a for each sign."""
    def tree_of_a(tree):
        if tree[0] == "sign":
            return A
        return tree[:3] + (tuple(tree_of_a(kid) for kid in tree[3]),) if tree[0] == "knot" else tree
    return (book[0], tuple((key, tree_of_a(tree)) for key, tree in book[1]))


class Counts(unittest.TestCase):
    def refused(self, book, row, most):
        with self.assertRaises(TooMany) as caught:
            plans_read(book, row, most)
        self.assertIs(type(caught.exception), TooMany)
        self.assertIsInstance(caught.exception, GraftError)
        self.assertIsInstance(caught.exception, ValueError)
        self.assertEqual(caught.exception.most, most)
        self.assertIs(type(caught.exception.most), int)

    def check(self, book, row, plans):
        many = many_read(book, row)
        self.assertIs(type(many), int)
        self.assertEqual(many, len(plans), (book, row))
        for most in [len(plans), len(plans) + 1, 1000]:
            if 1 <= len(plans) <= most or not plans and most:
                told = plans_read(book, row, most)
                self.assertIs(type(told), list)
                self.assertEqual(told, sorted(plans))
                self.assertEqual(repr(told), repr(sorted(plans)))
        for most in [len(plans) - 1, len(plans) // 2, 1]:
            if 1 <= most < len(plans):
                self.refused(book, row, most)

    def test_all_rows_of_small_books(self):
        for book, most in [(ENDLESS, 9), (TWINS, 5), (DENSE, 3)] + [(book, 7) for book in ROUNDS]:
            for row, plans in rows_and_plans(book, most, 10 ** 5).items():
                self.check(book, row, plans)

    def test_a_book_whose_plans_end(self):
        known = {}
        for plan in BOUNDED_PLANS:
            if is_whole(BOUNDED, plan):
                known.setdefault(row_of(BOUNDED, plan), []).append(plan)
        self.assertGreater(len(known), 40)
        for row, plans in known.items():
            if len(row) <= 12:
                self.check(BOUNDED, row, plans)

    def test_books_made_by_chance(self):
        several = 0
        for seed in range(400):
            book = chance_book(seed, 1 + seed % 7)
            try:
                known = rows_and_plans(book, 6)
            except Great:
                continue
            for row in sorted(known, key=lambda row: (-len(known[row]), row))[:5] + [("a", "b"), ("ab",) * 3]:
                self.check(book, row, known.get(row, []))
                several += len(known.get(row, [])) > 1
        self.assertGreater(several, 30)

    def test_no_plan(self):
        for book, row in [(ENDLESS, ()), (ENDLESS, ("a",)), (ROUNDS[0], ("a", "a")), (ROUNDS[3], ("a",)), (TWINS, ("b",))]:
            self.check(book, row, [])
        for book in [ENDLESS, TWINS, DENSE, BOUNDED]:
            self.check(("Q", book[1]), ("a",), [])

    def test_known_numbers(self):
        # Trees in which each knot has two kids or none.
        for length, many in [(1, 1), (2, 0), (3, 1), (5, 2), (7, 5), (9, 14), (11, 42), (12, 0)]:
            self.assertEqual(many_read(ROUNDS[0], ("a",) * length), many)
        # Each graft is put above or beneath: one more at the one place, m, or at the other, its foot's knot.
        book = ("S", (
            ("s", knot("S", A, takes=("M", False))),
            ("m", knot("X", A, knot("Y", FOOT, takes=("M", False)), takes=("M", False))),
        ))
        for length, many in enumerate([0, 1, 1, 2, 5, 14, 42, 132, 429, 1430, 4862, 16796, 58786]):
            self.assertEqual(many_read(book, ("a",) * length), many)
        self.refused(book, ("a",) * 9, 1000)
        self.assertEqual(len(plans_read(book, ("a",) * 8, 429)), 429)
        self.refused(book, ("a",) * 8, 428)

    def test_great_numbers(self):
        began = time.monotonic()
        for book in [DENSE, TWINS, one_letter(ENDLESS), one_letter(BOUNDED)] + [one_letter(book) for book in ROUNDS]:
            for length in [0, 1, 2, 5, 8, 11, 12]:
                self.assertEqual(many_read(book, ("a",) * length), many_of_signs(book, length), length)
        self.assertGreater(many_read(DENSE, ("a",) * 12), 10 ** 6)
        self.refused(DENSE, ("a",) * 12, 1000)
        twelve = ("S", tuple(("k" + str(number), tree) for number, tree in enumerate(
            [knot("S", A, ("hole", "S"))] * 20 + [knot("S", A)] * 20)))
        self.assertEqual(many_read(twelve, ("a",) * 12), 20 ** 12)
        self.assertLess(time.monotonic() - began, 60)

    def test_many_plans_of_single_letters_made_by_chance(self):
        for seed in range(60):
            book = one_letter(chance_book(seed, 6))
            for length in [3, 6, 9]:
                self.assertEqual(many_read(book, ("a",) * length), many_of_signs(book, length), (seed, length))

    def test_as_many_as_may_be_told(self):
        # 1000 twins.
        book = ("S", tuple(("k" + str(number), tree) for number, tree in enumerate(
            [knot("S", A, ("hole", "T"))] * 10 + [knot("T", A, ("hole", "U"))] * 10 + [knot("U", B)] * 10)))
        told = plans_read(book, ("a", "a", "b"), 1000)
        self.assertEqual(len(told), 1000)
        self.assertEqual(told, sorted(told))
        self.assertEqual(len({repr(plan) for plan in told}), 1000)
        self.refused(book, ("a", "a", "b"), 999)
        more = (book[0], book[1] + (("more", knot("S", A, A, B)),))
        self.refused(more, ("a", "a", "b"), 1000)
        self.assertEqual(many_read(more, ("a", "a", "b")), 1001)

    def test_few_plans_beside_pieces_that_come_in_many_ways(self):
        # What the other trees build within the row, in very many ways, is in none of its whole plans.
        book = ("U", DENSE[1] + (
            ("x", knot("U", knot("X", *[A] * 6), knot("X", *[A] * 5), B)), ("y", knot("U", *[A] * 7, ("hole", "V"))),
            ("z", knot("V", A, A, A, A, B)),
        ))
        row = ("a",) * 11 + ("b",)
        self.check(book, row, [("x", ()), ("y", (((7,), ("z", ())),))])
        self.assertGreater(many_read(("S", book[1]), row[:11]), 10 ** 6)

    def test_whole_plans_alone(self):
        for row, plans in rows_and_plans(TWINS, 4).items():
            for plan in plans_read(TWINS, row, 1000):
                self.assertIs(is_plan(TWINS, plan), True)
                self.assertIs(is_whole(TWINS, plan), True)
                self.assertEqual(row_of(TWINS, plan), row)

    def test_lists_are_new_and_nothing_is_changed(self):
        before = repr(TWINS)
        row = ("a",) * 3
        first, second = plans_read(TWINS, row, 100), plans_read(TWINS, row, 100)
        self.assertIsNot(first, second)
        kept = list(second)
        first.clear()
        first.append("mine")
        self.assertEqual(second, kept)
        self.refused(TWINS, row, 1)
        self.assertEqual(plans_read(TWINS, row, 100), kept)
        self.assertEqual(many_read(TWINS, row), len(kept))
        self.assertEqual(repr(TWINS), before)
        none = plans_read(TWINS, (), 1)
        none.append("mine")
        self.assertEqual(plans_read(TWINS, (), 1), [])


if __name__ == "__main__":
    unittest.main()
