"""Points 2, 3, 4 and 29: two books held against each other."""

import itertools
import time
import unittest

from graftsay.alike import held_apart
from graftsay.building import row_of
from graftsay.errors import GraftError, TooMany
from graftsay.plans import is_plan, is_whole
from graftsay.reading import shows_none
from tests.support import (
    A, B, BOUNDED, C, DENSE, ENDLESS, ROUNDS, Great, chance_book, knot, numbered, rows_and_plans, shows, sign,
)

FOOT = ("foot", "M")
MAY = ("M", False)
S = ("hole", "S")
# The same rows by starts and by grafts: a, with as many b behind it as one likes.
STARTS = numbered([knot("S", A), knot("S", S, B)])
GRAFTS = numbered([knot("S", A, takes=MAY), knot("X", FOOT, B, takes=MAY)])
# b in front; nothing; a and b in any order; no more than three b.
AHEAD = numbered([knot("S", A), knot("S", B, S)])
NONE = ("Q", STARTS[1])
BOTH = numbered([knot("S", A), knot("S", B), knot("S", A, S), knot("S", B, S)])
SHORT = numbered([knot("S", A), knot("S", A, B), knot("S", A, B, B), knot("S", A, B, B, B)])
BOOKS = [STARTS, GRAFTS, AHEAD, NONE, BOTH, SHORT, ENDLESS, DENSE, BOUNDED] + ROUNDS


def of_signs(many):
    """So many unlike signs."""
    letters = "abcdefghijklmnopqrstuvwxyz"
    return [sign(one + other) for one in letters for other in letters][:many]


def in_order(rows):
    return sorted(rows, key=lambda row: (len(row), row))


class HeldApart(unittest.TestCase):
    def refused(self, one, other, length):
        with self.assertRaises(TooMany) as caught:
            held_apart(one, other, length)
        self.assertIs(type(caught.exception), TooMany)
        self.assertIsInstance(caught.exception, GraftError)
        self.assertIsInstance(caught.exception, ValueError)
        self.assertEqual(caught.exception.most, 1000)
        self.assertIs(type(caught.exception.most), int)

    def check(self, one, other, length, rows, others):
        """Holds what is told against the rows of both, sets."""
        before = repr((one, other))
        told = held_apart(one, other, length)
        self.assertIs(type(told), tuple)
        self.assertEqual(repr(held_apart(one, other, length)), repr(told))
        self.assertEqual(repr((one, other)), before)
        parting = in_order(rows ^ others)
        if not parting:
            self.assertEqual(repr(told), repr(("alike", in_order(rows))))
            self.assertIs(type(told[1]), list)
            return "alike"
        word, row, side, plan, entries = told
        self.assertEqual((word, row), ("parted", parting[0]))
        self.assertIs(type(side), int)
        self.assertEqual(side, 0 if row in rows else 1)
        having, lacking = (one, other) if side == 0 else (other, one)
        self.assertIs(is_plan(having, plan), True)
        self.assertIs(is_whole(having, plan), True)
        self.assertEqual(row_of(having, plan), row)
        self.assertIs(type(entries), list)
        self.assertIs(shows_none(lacking, row, entries), True)
        self.assertTrue(shows(lacking, row, entries))
        return side

    def test_all_pairs(self):
        known = {book: set(rows_and_plans(book, 4, 10 ** 5)) for book in BOOKS}
        found = set()
        for one, other in itertools.product(BOOKS, repeat=2):
            for length in range(5):
                rows, others = [{row for row in known[book] if len(row) <= length} for book in (one, other)]
                found.add(self.check(one, other, length, rows, others))
        self.assertEqual(found, {"alike", 0, 1})

    def test_to_six(self):
        pairs = [(STARTS, GRAFTS), (STARTS, AHEAD), (STARTS, SHORT), (SHORT, GRAFTS), (BOTH, STARTS), (NONE, NONE), (ENDLESS, NONE),
                 (BOUNDED, ENDLESS), (("N", BOUNDED[1]), BOUNDED)]
        for one, other in pairs:
            for length in [5, 6]:
                rows, others = [set(rows_and_plans(book, length, 10 ** 5)) for book in (one, other)]
                self.check(one, other, length, rows, others)

    def test_by_hand(self):
        rows = [("a",) + ("b",) * count for count in range(6)]
        for length in range(7):
            self.assertEqual(held_apart(STARTS, GRAFTS, length), ("alike", rows[:length]))
            self.assertEqual(held_apart(NONE, NONE, length), ("alike", []))
        for length in range(2, 7):
            self.assertEqual(held_apart(STARTS, AHEAD, length)[:4], ("parted", ("a", "b"), 0, ("k1", (((0,), ("k0", ())),))))
            self.assertEqual(held_apart(AHEAD, STARTS, length)[:4], ("parted", ("a", "b"), 1, ("k1", (((0,), ("k0", ())),))))
        self.assertEqual(held_apart(STARTS, AHEAD, 1), ("alike", [("a",)]))
        self.assertEqual(held_apart(SHORT, STARTS, 4), ("alike", rows[:4]))
        self.assertEqual(held_apart(SHORT, STARTS, 5)[:3], ("parted", rows[4], 1))
        self.assertEqual(held_apart(STARTS, SHORT, 6)[:3], ("parted", rows[4], 0))
        # The shorter row parts them, though the other comes first in the order of texts.
        one, other = numbered([knot("S", A, A), knot("S", C)]), numbered([knot("S", B)])
        self.assertEqual(held_apart(one, other, 6)[:3], ("parted", ("b",), 1))
        self.assertEqual(held_apart(other, one, 6)[:3], ("parted", ("b",), 0))

    def test_books_made_by_chance(self):
        found = {}
        for seed in range(150):
            one, other = chance_book(seed, 1 + seed % 4), chance_book(seed + 1, 1 + seed % 3)
            for first, second in [(one, other), (one, (one[0], one[1][::-1])), (one, (one[0], one[1][:-1] or one[1]))]:
                try:
                    rows, others = [set(rows_and_plans(book, 4, 2000)) for book in (first, second)]
                except Great:
                    continue
                told = self.check(first, second, 4, rows, others)
                found[told] = found.get(told, 0) + 1
        self.assertGreater(min(found[told] for told in ("alike", 0, 1)), 10)

    def test_too_many(self):
        ten = of_signs(10)
        trees = [knot("S", *tree) for tree in itertools.product(ten[:2], ten, ten)] + [knot("S", A, ("hole", "T"), ("hole", "T"), ("hole", "U"))]
        trees += [knot("T", one) for one in ten] + [knot("U", one) for one in ten[:8]]
        many = numbered(trees)
        self.assertEqual(held_apart(many, many, 4)[0], "alike")
        self.assertEqual(len(held_apart(many, many, 4)[1]), 1000)
        more = numbered(trees + [knot("S", C)])
        for length in [4, 5, 6]:
            for book in BOOKS + [many, more]:
                self.refused(more, book, length)
                self.refused(book, more, length)
        self.assertEqual(held_apart(more, many, 3)[:3], ("parted", ("c",), 0))
        self.assertEqual(held_apart(many, NONE, 4)[:3], ("parted", (ten[0][1],) * 3, 0))
        self.assertEqual(held_apart(NONE, many, 6)[:3], ("parted", (ten[0][1],) * 3, 1))

    def test_great_books(self):
        began = time.monotonic()
        wide = numbered([knot("S", one, takes=MAY) for one in of_signs(390)] + [knot("X", A, FOOT, A, B, takes=MAY)] * 10)
        other = (wide[0], wide[1][::-1])
        self.assertEqual(held_apart(wide, other, 4)[0], "alike")
        less = (wide[0], wide[1][:200] + wide[1][201:])
        self.assertEqual(held_apart(less, wide, 4)[:4], ("parted", (of_signs(390)[200][1],), 1, ("k200", ())))
        self.assertLess(time.monotonic() - began, 30)

    def test_lists_are_new(self):
        for one, other in [(STARTS, GRAFTS), (STARTS, AHEAD)]:
            first, second = held_apart(one, other, 4), held_apart(one, other, 4)
            self.assertIsNot(first[-1], second[-1])
            kept = repr(second)
            first[-1].clear()
            first[-1].append("mine")
            self.assertEqual(repr(second), kept)
            self.assertEqual(repr(held_apart(one, other, 4)), kept)


if __name__ == "__main__":
    unittest.main()
