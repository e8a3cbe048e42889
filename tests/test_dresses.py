"""Points 2, 3 and 27, as far as that tells what a dress is: those that stand in whole plans that a walker takes."""

import time
import unittest

from graftsay.dresses import dresses_of
from graftsay.errors import GraftError, TooMany
from graftsay.plans import is_whole
from tests.support import (
    A, B, BOUNDED, BOUNDED_PLANS, C, DENSE, ENDLESS, ROUNDS, VOID, Great, all_dresses, chain_of, chance_book,
    chance_walker, dresses_in, knot, numbered, plans_of_signs, sign,
)

FOOT = ("foot", "M")
MAY = ("M", False)
# Takes each row of a and b of an even length.
EVEN = (2, 0, (0,), ((0, "a", 1), (1, "a", 0), (0, "b", 1), (1, "b", 0)))
ALL = (1, 0, (0,), tuple((0, letter, 0) for letter in "abcdefghij"))
WHOLE = [plan for plan in BOUNDED_PLANS if is_whole(BOUNDED, plan)]


def dresses_by_plans(book, walker, plans):
    found = set()
    for plan in plans:
        found |= dresses_in(book, walker, plan) or set()
    return found


def in_order(book, dresses):
    keys = [key for key, tree in book[1]]
    return sorted(dresses, key=lambda dress: (keys.index(dress[0]), dress))


class Dresses(unittest.TestCase):
    def refused(self, book, walker, most):
        with self.assertRaises(TooMany) as caught:
            dresses_of(book, walker, most)
        self.assertIs(type(caught.exception), TooMany)
        self.assertIsInstance(caught.exception, GraftError)
        self.assertEqual(caught.exception.most, most)

    def check(self, book, walker, plans):
        before = repr((book, walker))
        due = in_order(book, dresses_by_plans(book, walker, plans))
        self.assertEqual(all_dresses(book, walker), set(due))
        told = dresses_of(book, walker, 400)
        self.assertIs(type(told), list)
        self.assertEqual(repr(told), repr(due), (book, walker))
        self.assertEqual(dresses_of(book, walker, max(1, len(due))), due)
        for most in [len(due) - 1, len(due) // 2]:
            if 1 <= most < len(due):
                self.refused(book, walker, most)
        self.assertEqual(repr((book, walker)), before)
        return len(due)

    def test_by_hand(self):
        book = ("S", (("s", knot("S", A, ("hole", "S"))), ("t", knot("S", knot("X", B, takes=MAY))), ("m", knot("X", A, FOOT))))
        # The row is taken where it has two signs: a b by s and t, or by t and m.
        two = (3, 0, (2,), ((0, "a", 1), (1, "b", 2), (0, "b", 1), (1, "a", 2)))
        self.assertEqual(dresses_of(book, two, 400), [
            ("s", True, (((), False, 0, 2), ((), True, 0, 2), ((1,), True, 1, 2))),
            ("t", False, (((), False, 1, 2), ((), True, 1, 2), ((0,), False, 1, 2), ((0,), True, 1, 2))),
            ("t", True, (((), False, 0, 2), ((), True, 0, 2), ((0,), False, 1, 2), ((0,), True, 0, 2))),
            ("m", False, (((), False, 0, 2), ((), True, 0, 2), ((1,), True, 1, 2))),
        ])
        self.check(book, two, plans_of_signs(book, 4))
        self.assertEqual(dresses_of(book, two[:2] + ((),) + two[3:], 400), [])
        self.assertEqual(dresses_of(book, two[:3] + ((),), 400), [])

    def test_a_book_whose_plans_end(self):
        found = [self.check(BOUNDED, ALL, WHOLE), self.check(BOUNDED, EVEN, WHOLE)]
        for seed in range(60):
            walker = chance_walker(seed, tuple("abcdefghij"))
            found.append(self.check(BOUNDED, walker, WHOLE))
        self.assertGreater(sum(many > 0 for many in found), 10)
        self.assertGreater(sum(many > 20 for many in found), 5)

    def test_books_whose_plans_do_not_end(self):
        for book, signs in [(ENDLESS, 12), (ROUNDS[0], 11), (ROUNDS[1], 8), (ROUNDS[2], 10), (ROUNDS[3], 4), (ROUNDS[4], 4)]:
            plans = plans_of_signs(book, signs, 10 ** 5)
            for walker in [ALL, EVEN] + [(2, 0, ends, EVEN[3]) for ends in [(1,), (0, 1), ()]]:
                self.check(book, walker, plans)

    def test_books_made_by_chance(self):
        found = {"some": 0, "many": 0, "none": 0}
        for seed in range(600):
            book = chance_book(seed, 1 + seed % 6) if seed % 3 else [DENSE, ENDLESS][seed % 2]
            walker = chance_walker(seed, ("a", "b", "ab", "c", "d", "e"))
            due = all_dresses(book, walker)
            if len(due) > 400:
                self.refused(book, walker, 400)
                found["many"] += 1
                continue
            self.assertEqual(dresses_of(book, walker, 400), in_order(book, due))
            found["some" if due else "none"] += 1
            try:
                plans = plans_of_signs(book, 5, 2000)
            except Great:
                continue
            self.assertLessEqual(dresses_by_plans(book, walker, plans), due)
        self.assertGreater(found["some"], 150)
        self.assertGreater(found["none"], 150)
        self.assertGreater(found["many"], 5)

    def test_own_trees_are_counted_apart(self):
        book = numbered([knot("S", A, ("hole", "S")), knot("S", A)])
        self.assertEqual([dress[:2] for dress in dresses_of(book, ALL, 400)], [
            ("k0", False), ("k0", True), ("k1", False), ("k1", True)])
        self.check(book, ALL, plans_of_signs(book, 5))

    def test_what_may_be_put_and_need_not(self):
        for must in [False, True]:
            for walker in [ALL, EVEN]:
                book = numbered([knot("S", knot("X", A, takes=("M", must))), knot("X", B, FOOT, B, takes=MAY)])
                self.check(book, walker, plans_of_signs(book, 9))
        book = numbered([knot("S", knot("X", A, takes=MAY), VOID), knot("S", knot("X", A, takes=("Q", False)), A)])
        self.check(book, EVEN, plans_of_signs(book, 4))
        self.check(book, ALL, plans_of_signs(book, 4))

    def test_just_as_many(self):
        trees = [knot("S", *[sign(one) for one in "a" * count]) for count in range(1, 9)]
        book = numbered(trees * 50)
        self.assertEqual(len(dresses_of(book, ALL, 400)), 400)
        self.refused(book, ALL, 399)

    def test_very_many(self):
        began = time.monotonic()
        five = (5, 0, (0, 1, 2, 3, 4), tuple(
            (state, letter, (state * factor + add) % 5)
            for letter, factor, add in [("a", 1, 1), ("b", 2, 0), ("c", 3, 2)] for state in range(5)))
        for book in [
            DENSE,
            numbered([knot("S", *[knot("X", A, *[("hole", "S")] * 7) for count in range(6)]), knot("S", A), knot("S", B), knot("S", C)]),
            numbered([knot("S", A, takes=MAY)] + [
                knot("X", one, knot("Y", knot("Z", FOOT, takes=MAY), two, takes=MAY), takes=MAY)
                for one in (A, B, C) for two in (A, B, C) for count in range(44)]),
        ]:
            self.refused(book, five, 400)
            self.refused((book[0], book[1][::-1]), five, 400)
        self.assertLess(time.monotonic() - began, 30)

    def test_great_books(self):
        began = time.monotonic()
        for many in [399, 400]:
            book = chain_of(many)
            for trees in [book[1], book[1][::-1]]:
                self.assertEqual(len(dresses_of(("S", trees), ALL, 400)), many)
                self.assertEqual(len(dresses_of(("S", trees), EVEN, 400)), many if many % 2 == 0 else 0)
        grafts = numbered([knot("S", A, takes=MAY)] + [knot("X", knot("Y", FOOT, takes=MAY), A, takes=MAY)] * 399)
        self.assertEqual(len(dresses_of(grafts, ALL, 400)), 400)
        self.refused(grafts, EVEN, 400)
        self.assertLess(time.monotonic() - began, 30)

    def test_lists_are_new(self):
        first, second = dresses_of(ROUNDS[0], EVEN[:2] + ((1,), EVEN[3]), 400), dresses_of(ROUNDS[0], EVEN[:2] + ((1,), EVEN[3]), 400)
        self.assertEqual(first, second)
        first.clear()
        self.assertGreater(len(second), 0)
        self.assertEqual(dresses_of(ROUNDS[0], EVEN[:2] + ((1,), EVEN[3]), 400), second)


if __name__ == "__main__":
    unittest.main()
