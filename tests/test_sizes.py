"""Points 2, 3, 4 and 23: how many whole plans of a size there are, and which; the rows of whole plans up to a length."""

import itertools
import time
import unittest

from graftsay.errors import GraftError, TooMany
from graftsay.plans import is_plan, is_whole, size_of
from graftsay.rowsets import whole_rows
from graftsay.sizes import many_of, plans_of, rows_to
from tests.support import (
    A, B, BOUNDED, BOUNDED_PLANS, C, DENSE, ENDLESS, ROUNDS, VOID, Great, chain_of, chance_book, keys_in, knot,
    many_of_signs, numbered, one_key, plans_of_signs, row_in, rows_and_plans, sign,
)

FOOT = ("foot", "M")
MAY = ("M", False)
# Grafts that are put in again and again, from either side.
SIDES = ("S", (
    ("s", knot("S", A, takes=MAY)), ("l", knot("X", B, FOOT, takes=MAY)), ("r", knot("X", FOOT, C, takes=MAY)),
))
# As many b as c, round the a.
ROUND = ("S", (("s", knot("S", A, takes=MAY)), ("g", knot("X", B, knot("Y", FOOT, takes=MAY), C))))
# Rows that several plans have.
TWINS = ("S", (
    ("s", knot("S", A, ("hole", "S"))), ("t", knot("S", A, A)), ("u", knot("S", A)), ("v", knot("S", ("hole", "S"), VOID, A)),
))
NO_PLANS = [ROUNDS[3], ROUNDS[4], ("Q", ENDLESS[1]), ("M", ENDLESS[1]), ("S", (("m", knot("S", A, ("foot", "S"))),))]
BOOKS = [BOUNDED, ENDLESS, DENSE, SIDES, ROUND, TWINS] + ROUNDS + NO_PLANS


def in_order(rows):
    return sorted(rows, key=lambda row: (len(row), row))


def of_signs(many):
    """So many unlike signs."""
    letters = "abcdefghijklmnopqrstuvwxyz"
    return [sign(one + other) for one in letters for other in letters][:many]


class Refusing(unittest.TestCase):
    def refused(self, most, asked, *told):
        with self.assertRaises(TooMany) as caught:
            asked(*told)
        self.assertIs(type(caught.exception), TooMany)
        self.assertIsInstance(caught.exception, GraftError)
        self.assertIsInstance(caught.exception, ValueError)
        self.assertEqual(caught.exception.most, most)
        self.assertIs(type(caught.exception.most), int)


class Sizes(Refusing):
    def check(self, book, size, plans):
        many = many_of(book, size)
        self.assertIs(type(many), int)
        self.assertEqual(many, len(plans), (book, size))
        for most in [len(plans), len(plans) + 1, 1000]:
            if len(plans) <= most and most:
                told = plans_of(book, size, most)
                self.assertIs(type(told), list)
                self.assertEqual(repr(told), repr(sorted(plans)))
        for most in [len(plans) - 1, len(plans) // 2, 1]:
            if 1 <= most < len(plans):
                self.refused(most, plans_of, book, size, most)

    def check_to(self, book, last, cap=10 ** 5):
        plans = plans_of_signs(book, last, cap, one_key)
        for size in range(1, last + 1):
            self.check(book, size, [plan for plan in plans if len(keys_in(plan)) == size])

    def test_small_books(self):
        for book, last in [(ENDLESS, 7), (DENSE, 4), (SIDES, 8), (ROUND, 40), (TWINS, 8), (ROUNDS[0], 13)]:
            self.check_to(book, last)
        for book in [ROUNDS[1], ROUNDS[2], ROUNDS[3], ROUNDS[4]] + NO_PLANS:
            self.check_to(book, 12)

    def test_a_book_whose_plans_end(self):
        whole = [plan for plan in BOUNDED_PLANS if is_whole(BOUNDED, plan)]
        self.assertEqual(max(len(keys_in(plan)) for plan in whole), 14)
        for size in range(1, 41):
            self.check(BOUNDED, size, [plan for plan in whole if len(keys_in(plan)) == size])

    def test_other_tops(self):
        for top in "NKMPTQLR":
            book = (top, BOUNDED[1])
            whole = [plan for plan in BOUNDED_PLANS if is_whole(book, plan)]
            for size in range(1, 20):
                self.check(book, size, [plan for plan in whole if len(keys_in(plan)) == size])

    def test_books_made_by_chance(self):
        several = 0
        for seed in range(300):
            book = chance_book(seed, 1 + seed % 7)
            try:
                plans = plans_of_signs(book, 5, 3000, one_key)
            except Great:
                continue
            for size in range(1, 6):
                own = [plan for plan in plans if len(keys_in(plan)) == size]
                self.check(book, size, own)
                several += len(own) > 1
            for size in [6, 9, 23, 40]:
                self.assertEqual(many_of(book, size), many_of_signs(book, size, one_key))
        self.assertGreater(several, 50)

    def test_chains(self):
        for many in list(range(1, 41)):
            book = chain_of(many)
            for size in range(1, 41):
                self.assertEqual(many_of(book, size), int(size == many))
            plan = ("k" + str(many - 1), ())
            for number in range(many - 2, -1, -1):
                plan = ("k" + str(number), (((1,), plan),))
            self.assertEqual(plans_of(book, many, 1), [plan])
            self.assertEqual(plans_of(book, many % 40 + 1, 1), [plan] if many % 40 + 1 == many else [])
            self.assertEqual(many_of((book[0], book[1][::-1]), many), 1)
        # One more than can be told.
        self.assertEqual([many_of(chain_of(41), size) for size in range(1, 41)], [0] * 40)

    def test_chains_of_grafts(self):
        grafts = [knot("X", A, ("foot", "M" + str(number)), takes=("M" + str(number + 1), False)) for number in range(60)]
        book = numbered([knot("S", A, takes=("M0", True))] + grafts)
        for size in range(1, 41):
            told = plans_of(book, size, 1)
            self.assertEqual(len(told), int(size > 1))
            self.assertEqual(many_of(book, size), len(told))
            for plan in told:
                self.assertEqual(keys_in(plan), ["k" + str(number) for number in range(size)])

    def test_known_numbers(self):
        # Trees in which each knot has two kids or none.
        catalan = [1, 1, 2, 5, 14, 42, 132, 429, 1430, 4862, 16796, 58786, 208012, 742900, 2674440, 9694845, 35357670,
                   129644790, 477638700, 1767263190]
        self.assertEqual([many_of(ROUNDS[0], size) for size in range(1, 41, 2)], catalan)
        self.assertEqual([many_of(ROUNDS[0], size) for size in range(2, 41, 2)], [0] * 20)
        motzkin = [1, 1, 2, 4, 9, 21, 51, 127, 323, 835, 2188, 5798, 15511, 41835, 113634, 310572, 853467, 2356779]
        self.assertEqual([many_of(ENDLESS, size) for size in range(1, 19)], motzkin)
        twenty = numbered([knot("S", A, ("hole", "S"))] * 20 + [knot("S", A)] * 20)
        self.assertEqual([many_of(twenty, size) for size in range(1, 41)], [20 ** size for size in range(1, 41)])

    def test_great_numbers(self):
        for book in BOOKS:
            for size in [1, 2, 7, 13, 20, 33, 39, 40]:
                self.assertEqual(many_of(book, size), many_of_signs(book, size, one_key), (book, size))
        self.assertGreater(many_of(DENSE, 40), 10 ** 30)
        self.refused(1000, plans_of, DENSE, 40, 1000)
        self.refused(1, plans_of, DENSE, 40, 1)

    def test_as_many_as_may_be_told(self):
        # A thousand twins, and one more.
        book = numbered([knot("S", A, ("hole", "T"))] * 10 + [knot("T", A, ("hole", "U"))] * 10 + [knot("U", B)] * 10)
        told = plans_of(book, 3, 1000)
        self.assertEqual(len({repr(plan) for plan in told}), 1000)
        self.assertEqual(told, sorted(told))
        self.refused(999, plans_of, book, 3, 999)
        more = (book[0], book[1] + (("more", knot("S", A, ("hole", "V"), ("hole", "V"))), ("v", knot("V", A))))
        self.assertEqual(many_of(more, 3), 1001)
        self.refused(1000, plans_of, more, 3, 1000)
        self.assertEqual(len(plans_of(more, 3, 1001)), 1001)

    def test_few_plans_beside_very_many(self):
        # The other trees have very many plans of these sizes; one whole plan has one of them alone.
        book = ("U", DENSE[1] + (("x", knot("U", A, ("hole", "V"))), ("v", knot("V", A, ("hole", "W"))), ("w", knot("W", A)),
                                 ("y", knot("U", ("hole", "S"), ("hole", "S"), A))))
        self.assertEqual(plans_of(book, 3, 2), [
            ("x", (((1,), ("v", (((1,), ("w", ())),))),)), ("y", (((0,), ("s", ())), ((1,), ("s", ()))))])
        self.check_to(book, 4)

    def test_whole_plans_alone(self):
        for book in BOOKS:
            for size in [1, 2, 3, 4, 5]:
                if many_of(book, size) <= 1000:
                    for plan in plans_of(book, size, 1000):
                        self.assertIs(is_plan(book, plan), True)
                        self.assertIs(is_whole(book, plan), True)
                        self.assertEqual(size_of(plan), size)

    def test_sizes_somewhat_beyond(self):
        for book in [TWINS, ENDLESS, NO_PLANS[0], chain_of(45)]:
            for size in [0, 41, 42, 45, 50]:
                self.assertEqual(many_of(book, size), many_of_signs(book, size, one_key) if size else 0)
            self.assertEqual(plans_of(book, 0, 1), [])
        self.assertEqual(len(plans_of(chain_of(45), 45, 1)), 1)
        self.assertEqual(rows_to(ROUND, 11)[-1], ("b",) * 5 + ("a",) + ("c",) * 5)

    def test_lists_are_new_and_nothing_is_changed(self):
        before = repr(TWINS)
        first, second = plans_of(TWINS, 3, 100), plans_of(TWINS, 3, 100)
        self.assertIsNot(first, second)
        kept = list(second)
        first.clear()
        first.append("mine")
        self.assertEqual(second, kept)
        self.refused(1, plans_of, TWINS, 3, 1)
        self.assertEqual(plans_of(TWINS, 3, 100), kept)
        none = plans_of(NO_PLANS[0], 3, 1)
        none.append("mine")
        self.assertEqual(plans_of(NO_PLANS[0], 3, 1), [])
        self.assertEqual(repr(TWINS), before)


class Rows(Refusing):
    def check(self, book, length, rows):
        told = rows_to(book, length)
        self.assertIs(type(told), list)
        self.assertEqual(repr(told), repr(in_order(rows)), (book, length))

    def check_to(self, book, last, cap=10 ** 5):
        known = rows_and_plans(book, last, cap)
        for length in range(last + 1):
            self.check(book, length, [row for row in known if len(row) <= length])

    def test_small_books(self):
        for book, last in [(ENDLESS, 8), (SIDES, 6), (ROUND, 8), (TWINS, 7), (DENSE, 3)]:
            self.check_to(book, last)
        for book in ROUNDS + NO_PLANS:
            self.check_to(book, 8)

    def test_a_book_whose_plans_end(self):
        rows = {row_in(BOUNDED, plan) for plan in BOUNDED_PLANS if is_whole(BOUNDED, plan)}
        for length in range(9):
            self.check(BOUNDED, length, [row for row in rows if len(row) <= length])
        for top in "NKMPTQLR":
            book = (top, BOUNDED[1])
            rows = {row_in(book, plan) for plan in BOUNDED_PLANS if is_whole(book, plan)}
            self.check(book, 8, [row for row in rows if len(row) <= 8])

    def test_books_made_by_chance(self):
        found = 0
        for seed in range(400):
            book = chance_book(seed, 1 + seed % 7)
            try:
                known = rows_and_plans(book, 5)
            except Great:
                continue
            for length in range(6):
                self.check(book, length, [row for row in known if len(row) <= length])
            found += len(known) > 5
        self.assertGreater(found, 25)

    def test_known_rows(self):
        self.assertEqual(rows_to(ROUND, 8), [
            ("b",) * count + ("a",) + ("c",) * count for count in range(4)])
        self.assertEqual(rows_to(SIDES, 2), [("a",), ("a", "c"), ("b", "a")])
        for length in range(9):
            self.assertEqual(rows_to(SIDES, length), in_order(
                ("b",) * ahead + ("a",) + ("c",) * behind
                for ahead in range(length) for behind in range(length) if ahead + behind < length))
            self.assertEqual(rows_to(DENSE, length), [("a",) * many for many in range(1, length + 1)])
            self.assertEqual(rows_to(chain_of(9), length), [])
        self.assertEqual(rows_to(chain_of(8), 8), [("a",) * 8])

    def test_signs_of_several_letters(self):
        book = numbered([knot("S", sign("ab")), knot("S", sign("a"), sign("b")), knot("S", sign("b")), knot("S", sign("abc"))])
        self.assertEqual(rows_to(book, 2), [("ab",), ("abc",), ("b",), ("a", "b")])

    def test_no_rows(self):
        for book in NO_PLANS:
            for length in range(9):
                self.assertEqual(rows_to(book, length), [])
        for book in BOOKS:
            self.assertEqual(rows_to(book, 0), [])

    def test_as_many_as_may_be_told(self):
        # Ten signs, thrice: a thousand rows; one more; one more that is too long to count.
        ten = of_signs(10)
        trees = [knot("T", one) for one in ten] + [knot("S", A, ("hole", "T"), ("hole", "T"), ("hole", "U"))] + [
            knot("U", one) for one in ten]
        book = numbered(trees)
        for length in range(4):
            self.assertEqual(rows_to(book, length), [])
        for length in range(4, 9):
            told = rows_to(book, length)
            self.assertEqual(told, sorted(
                ("a", one[1], two[1], three[1]) for one in ten for two in ten for three in ten))
        more = numbered(trees + [knot("S", *[A] * 6)])
        for length in [4, 5]:
            self.assertEqual(len(rows_to(more, length)), 1000)
        for length in [6, 7, 8]:
            self.refused(1000, rows_to, more, length)
        again = numbered(trees + [knot("S", A, ten[0], ten[0], ten[0])] * 2)
        self.assertEqual(rows_to(again, 8), told)

    def test_grafts_that_have_as_many_as_may_be_told(self):
        # Thirty ahead and thirty behind, and a hundred rows without: just a thousand.
        thirty = of_signs(30)
        trees = [knot("S", A, takes=("M", True)), knot("X", ("hole", "L"), knot("Y", FOOT), ("hole", "R"), B)]
        trees += [knot("L", one) for one in thirty] + [knot("R", one) for one in thirty]
        hundred = [knot("S", one, C) for one in of_signs(100)]
        told = rows_to(numbered(trees + hundred), 8)
        self.assertEqual(told, in_order(
            [(one[1], "a", two[1], "b") for one in thirty for two in thirty] + [(one[1], "c") for one in of_signs(100)]))
        self.assertEqual(len(told), 1000)
        self.refused(1000, rows_to, numbered(trees + hundred + [knot("S", A)]), 4)
        self.assertEqual(len(rows_to(numbered(trees + hundred + [knot("S", A)]), 3)), 101)
        self.assertEqual(len(rows_to(numbered(trees + hundred + [knot("S", *[A] * 5)]), 4)), 1000)

    def test_very_many(self):
        three = numbered([knot("S", one, ("hole", "S")) for one in (A, B, C)] + [knot("S", one) for one in (A, B, C)])
        for length, many in [(0, 0), (1, 3), (2, 12), (3, 39), (4, 120), (5, 363)]:
            self.assertEqual(len(rows_to(three, length)), many)
        for length in [6, 7, 8]:
            self.refused(1000, rows_to, three, length)
        grafts = numbered([knot("S", A, takes=MAY)] + [
            knot("X", one, knot("Y", FOOT, takes=MAY), two, takes=MAY) for one in (A, B, C) for two in (A, B, C)])
        self.check_to(grafts, 5)
        self.assertEqual(len(rows_to(grafts, 6)), 1 + 9 + 81)
        self.refused(1000, rows_to, numbered([knot("S", A, ("hole", "S"), ("hole", "S"), ("hole", "S"))] + [
            knot("S", one) for one in of_signs(300)]), 8)
        great = numbered([knot("S", one, ("hole", "S"), takes=MAY) for one in of_signs(100)] + [
            knot("S", one) for one in of_signs(100)] + [knot("X", one, FOOT, takes=MAY) for one in of_signs(200)])
        self.assertEqual(len(rows_to(great, 1)), 100)
        self.refused(1000, rows_to, great, 2)
        self.refused(1000, rows_to, great, 8)

    def test_few_rows_beside_very_many(self):
        # What is too long for a whole plan, or in none, may be more than can be told.
        signs = of_signs(50)
        trees = [knot("T", one, ("hole", "T")) for one in signs] + [knot("T", one) for one in signs]
        for others in [[], [knot("S", *[A] * 8, takes=("M", False))], [knot("S", *[A] * 7, ("hole", "T"))]]:
            book = numbered(trees + others + [knot("X", ("hole", "T"), FOOT, A), knot("S", B), knot("S", A, ("hole", "Q"))])
            told = rows_to(book, 8)
            self.assertEqual(told[0], ("b",))
            self.assertEqual(len(told), 51 if others and others[0][3][-1][0] == "hole" else 1 + len(others))

    def test_few_rows_beside_very_many_by_what_must_be_put(self):
        # What else must stand in a whole plan leaves room for one sign there.
        signs = of_signs(50)
        trees = [knot("T", one, ("hole", "T")) for one in signs] + [knot("T", one) for one in signs]
        long = [knot("X", *[A] * 6, FOOT), knot("U", *[A] * 6)]
        for tree in [
            knot("S", B, knot("X", ("hole", "T"), takes=("M", True))), knot("S", B, ("hole", "T"), ("hole", "U")),
            knot("S", B, ("hole", "U"), ("hole", "T")), knot("S", B, ("hole", "T"), takes=("M", True)),
        ]:
            told = rows_to(numbered(trees + long + [tree]), 8)
            self.assertEqual(len(told), 50)
            self.assertEqual(rows_to(numbered(trees + long + [tree]), 7), [])
            self.check_to(numbered(trees[::10] + long + [tree]), 8)

    def test_few_rows_that_come_in_very_many_ways(self):
        # More than a thousand ways to part the signs of a row at a foot; the rows are few.
        book = numbered([knot("S", one, takes=MAY) for one in (A, B)] + [knot("X", one, FOOT, takes=MAY) for one in (A, B)] + [
            knot("X", FOOT, one, takes=MAY) for one in (A, B)])
        self.assertEqual(rows_to(book, 8), [
            row for length in range(1, 9) for row in itertools.product("ab", repeat=length)])
        deep = numbered([knot("S", one, takes=MAY) for one in (A, B)] + [
            knot("X", one, knot("Y", FOOT, takes=MAY), two, takes=MAY) for one in (A, B, VOID) for two in (A, B, VOID) if one != two or one != VOID])
        self.assertEqual(rows_to(deep, 7), [
            row for length in range(1, 8) for row in itertools.product("ab", repeat=length)])

    def test_refused_just_where_there_are_more(self):
        refused = 0
        for seed in range(250):
            book = chance_book(seed, 1 + seed % 7) if seed % 5 else [SIDES, ROUND, TWINS, DENSE, ENDLESS][seed // 5 % 5]
            for length in [3, 5]:
                try:
                    rows = in_order(rows_and_plans(book, length, 10 ** 4))
                except Great:
                    continue
                for most in {0, 1, 2, len(rows) // 2, len(rows) - 1, len(rows), len(rows) + 1} - {-1}:
                    if most < len(rows):
                        self.refused(most, whole_rows, book, length, most)
                        refused += 1
                    else:
                        self.assertEqual(whole_rows(book, length, most), rows)
        self.assertGreater(refused, 200)

    def test_great_books(self):
        began = time.monotonic()
        for book, length, many in [
            (chain_of(400), 8, 0),
            (numbered([knot("S", A, takes=MAY)] + [knot("X", A, FOOT, takes=MAY)] * 399), 8, 8),
            (numbered([knot("S", one) for one in of_signs(400)]), 1, 400),
            (numbered([knot("S", ("hole", "S"), A)] * 200 + [knot("S", B, takes=MAY)] * 100 + [
                knot("X", knot("Y", FOOT, takes=MAY), B, takes=MAY)] * 100), 8, 36),
        ]:
            for trees in [book[1], book[1][::-1]]:
                self.assertEqual(len(rows_to((book[0], trees), length)), many)
                many_of((book[0], trees), 40)
        self.assertEqual(many_of(chain_of(400), 40), 0)
        knots = [knot("Y", A, takes=("M" + str(number), False)) for number in range(8)]
        wide = [knot("X", *[knot("Z", *knots[:6]) for count in range(4)], ("foot", "M" + str(number % 8))) for number in range(390)]
        book = numbered(wide + [knot("S", *[knot("Z", *knots[:6]) for count in range(4)])] * 10)
        self.assertGreater(many_of(book, 40), 10 ** 60)
        self.assertEqual(rows_to(book, 8), [])
        self.assertLess(time.monotonic() - began, 60)

    def test_lists_are_new_and_nothing_is_changed(self):
        before = repr(SIDES)
        first, second = rows_to(SIDES, 4), rows_to(SIDES, 4)
        self.assertIsNot(first, second)
        kept = list(second)
        first.clear()
        first.append("mine")
        self.assertEqual(second, kept)
        self.assertEqual(rows_to(SIDES, 4), kept)
        none = rows_to(SIDES, 0)
        none.append("mine")
        self.assertEqual(rows_to(SIDES, 0), [])
        self.assertEqual(repr(SIDES), before)


if __name__ == "__main__":
    unittest.main()
