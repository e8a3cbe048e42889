"""Points 2, 4, 18 and 19: prices, the best plan of a row, and worths that bear it out."""

import inspect
import random
import time
import unittest

from graftsay.building import row_of
from graftsay.plans import is_plan, is_whole
from graftsay.prices import bears, best, price_of
from graftsay.reading import shows_none
from tests.support import (
    A, B, BOUNDED, BOUNDED_PLANS, C, DENSE, ENDLESS, ENDLESS_PLANS, ODD_THINGS, ROUNDS, VOID, bears_out, chance_book,
    closed_list, cost_of, goals_of, instances, knot, looks_entry, rows_and_plans, ruled, spoiled,
)

FOOT = ("foot", "M")
# One row, a b, is built in several ways: by s alone, by t with a start in its hole, by u with a graft put at it or in it.
BOOK = ("S", (
    ("s", knot("S", A, knot("X", B), VOID)),
    ("t", knot("S", A, ("hole", "N"))),
    ("u", knot("S", knot("X", B, takes=("M", False)), takes=("M", False))),
    ("n", knot("N", B)),
    ("n2", knot("N", B, takes=("M", False))),
    ("m", knot("X", A, FOOT)),
    ("k", knot("X", C, knot("Y", FOOT, takes=("M", True)), takes=("K", True))),
))
ROW = ("a", "b")
PRICES = [9, 2, 3, 4, 5, 7, 1]


def exact_worths(book, prices, row, dear):
    """For each entry that comes the least price, or the greatest, found by going through the rules again and again."""
    by_key = {key: cost for (key, tree), cost in zip(book[1], prices)}
    choose = max if dear else min
    listed = ruled(book, row)
    cases = list(instances(book, row, listed))
    worths = {}
    while True:
        found = {}
        for entry, premises, key in cases:
            if all(premise in worths for premise in premises):
                total = sum(worths[premise] for premise in premises) + (by_key[key] if key else 0)
                found[entry] = choose(found.get(entry, total), total)
        if found == worths:
            return sorted(worths.items())
        worths = found


class PriceOf(unittest.TestCase):
    def test_each_key_as_often_as_it_stands(self):
        prices = [1, 10, 100]
        self.assertEqual(price_of(ENDLESS, prices, ("s", ())), 1)
        self.assertEqual(price_of(ENDLESS, prices, ("g", ())), 10)
        plan = ("s", (((1,), ("h", (((), ("g", ())), ((0,), ("s", (((1,), ("g", ())),)))))),))
        self.assertEqual(price_of(ENDLESS, prices, plan), 1 + 100 + 10 + 1 + 10)

    def test_prices_of_all_plans(self):
        for book, plans in [(BOUNDED, BOUNDED_PLANS), (ENDLESS, ENDLESS_PLANS)]:
            for prices in [[0] * len(book[1]), [10 ** 9] * len(book[1]), [3 ** number for number in range(len(book[1]))]]:
                kept = list(prices)
                for plan in plans:
                    told = price_of(book, prices, plan)
                    self.assertIs(type(told), int)
                    self.assertEqual(told, cost_of(book, prices, plan))
                self.assertEqual(prices, kept)

    def test_plans_within_one_another(self):
        plan = ("g", ())
        for count in range(18):
            plan = ("g", (((1,), plan),))
        self.assertEqual(price_of(ENDLESS, [10 ** 9, 10 ** 9, 0], ("s", (((1,), plan),))), 20 * 10 ** 9)


class Best(unittest.TestCase):
    def check(self, book, prices, row, plans):
        for dear in [False, True]:
            kept = list(prices)
            told = best(book, prices, row, dear=dear)
            self.assertEqual(prices, kept)
            self.assertIs(type(told), tuple)
            self.assertEqual(repr(told), repr(best(book, prices, row, dear)))
            if not plans:
                self.assertEqual((told[0], len(told)), ("none", 2))
                self.assertIs(shows_none(book, row, told[1]), True)
                continue
            self.assertEqual((told[0], len(told)), ("plan", 4))
            word, plan, price, worths = told
            self.assertIn(plan, plans)
            self.assertIs(is_plan(book, plan), True)
            self.assertIs(is_whole(book, plan), True)
            self.assertEqual(row_of(book, plan), row)
            self.assertIs(type(price), int)
            self.assertEqual(price, cost_of(book, prices, plan))
            costs = [cost_of(book, prices, plan) for plan in plans]
            self.assertEqual(price, max(costs) if dear else min(costs))
            self.check_worths(book, prices, row, price, worths, dear)

    def check_worths(self, book, prices, row, price, worths, dear):
        self.assertIs(type(worths), list)
        self.assertIs(bears(book, prices, row, price, worths, dear), True)
        self.assertIs(bears(book, prices, row, price, worths, dear=dear), True)
        self.assertTrue(bears_out(book, prices, row, price, worths, dear))
        way = -1 if dear else 1
        self.assertIs(bears(book, prices, row, price + way, worths, dear), False)
        self.assertIs(bears(book, prices, row, price - way, worths, dear), True)

    def test_by_hand(self):
        word, plan, price, worths = best(BOOK, PRICES, ROW)
        self.assertEqual((word, plan, price), ("plan", ("t", (((1,), ("n", ())),)), 6))
        word, plan, price, worths = best(BOOK, PRICES, ROW, dear=True)
        self.assertEqual((word, price), ("plan", 10))
        self.assertIn(plan, [("u", (((), ("m", ())),)), ("u", (((0,), ("m", ())),))])
        self.assertEqual(best(BOOK, PRICES, ROW, False)[:3], best(BOOK, PRICES, ROW)[:3])
        self.assertEqual(best(BOOK, PRICES, ROW, True)[2], 10)
        # Each tree in turn is made dearer than all others.
        for prices, least, greatest in [
            ([1, 2, 3, 4, 5, 7, 1], 1, 10), ([99, 2, 3, 4, 5, 7, 1], 6, 99), ([9, 99, 3, 4, 5, 7, 1], 9, 104),
            ([9, 2, 99, 4, 5, 7, 1], 6, 106), ([9, 2, 3, 99, 5, 7, 1], 7, 101), ([9, 2, 3, 99, 99, 99, 0], 9, 102),
            ([0] * 7, 0, 0), ([10 ** 9] * 7, 10 ** 9, 2 * 10 ** 9),
        ]:
            self.assertEqual(best(BOOK, prices, ROW)[2], least)
            self.assertEqual(best(BOOK, prices, ROW, dear=True)[2], greatest)

    def test_the_arguments(self):
        self.assertEqual(list(inspect.signature(best).parameters), ["book", "prices", "row", "dear"])
        self.assertEqual(list(inspect.signature(bears).parameters), ["book", "prices", "row", "price", "thing", "dear"])
        for function in [best, bears]:
            self.assertIs(inspect.signature(function).parameters["dear"].default, False)

    def test_all_rows_of_small_books(self):
        for book, most in [(BOOK, 4), (ENDLESS, 7), (DENSE, 3)] + [(book, 5) for book in ROUNDS]:
            known = rows_and_plans(book, most)
            many = len(book[1])
            for prices in [PRICES, PRICES[::-1], [0] * many, [10 ** 9] * many, [0, 10 ** 9] * many]:
                for row in list(known) + [(), ("c",), ("a", "c", "a")]:
                    self.check(book, prices[:many], row, known.get(row, []))

    def test_books_made_by_chance(self):
        chance = random.Random(7)
        for seed in range(150):
            book = chance_book(seed, 1 + seed % 7)
            known = rows_and_plans(book, 5)
            for row in sorted(known, key=lambda row: (-len(known[row]), row))[:3] + [("b", "a")]:
                prices = [chance.choice([0, 1, 2, 30, 10 ** 9]) for tree in book[1]]
                self.check(book, prices, row, known.get(row, []))

    def test_rows_of_twelve_signs(self):
        began = time.monotonic()
        row = ("a",) * 12
        for prices in [[3, 1, 4, 1, 5, 9, 2], [0] * 7, [10 ** 9] * 7]:
            for dear in [False, True]:
                word, plan, price, worths = best(DENSE, prices, row, dear)
                self.assertEqual(row_of(DENSE, plan), row)
                self.assertEqual(price_of(DENSE, prices, plan), price)
                self.assertIs(bears(DENSE, prices, row, price, worths, dear), True)
        # Each tree has a sign: with a price of one each, no plan is dearer than one of a tree a sign.
        self.assertEqual(best(DENSE, [1] * 7, row, dear=True)[2], 12)
        self.assertEqual(best(DENSE, [1] * 7, row[:11] + ("b",))[0], "none")
        self.assertLess(time.monotonic() - began, 60)

    def test_lists_are_new_and_nothing_is_kept(self):
        prices = list(PRICES)
        before = repr(BOOK)
        for row in [ROW, ("c",)]:
            first, second = best(BOOK, prices, row), best(BOOK, prices, row)
            self.assertEqual(repr(first), repr(second))
            self.assertIsNot(first[-1], second[-1])
            kept = repr(second)
            first[-1].clear()
            prices[0] = 0
            self.assertEqual(repr(second), kept)
            prices[0] = PRICES[0]
            self.assertEqual(repr(best(BOOK, prices, row)), kept)
        self.assertEqual(prices, PRICES)
        self.assertEqual(repr(BOOK), before)


class Bears(unittest.TestCase):
    def check(self, book, prices, row, price, thing, dear, expected=None):
        before = repr((prices, thing))
        told = bears(book, prices, row, price, thing, dear)
        self.assertIs(type(told), bool)
        self.assertIs(told, bears_out(book, prices, row, price, thing, dear), (row, price, repr(thing)[:300]))
        if expected is not None:
            self.assertIs(told, expected, (row, price, repr(thing)[:300]))
        self.assertEqual(repr((prices, thing)), before)

    def cases(self):
        """Books, prices, rows with plans, the best price, worths made by the test, dear."""
        for book, row in [(BOOK, ROW), (ENDLESS, tuple("aabbcdc")), (ROUNDS[2], tuple("aba")), (DENSE, ("a", "a"))]:
            prices = (PRICES * 2)[:len(book[1])]
            costs = [cost_of(book, prices, plan) for plan in rows_and_plans(book, len(row))[row]]
            for dear in [False, True]:
                yield book, prices, row, max(costs) if dear else min(costs), exact_worths(book, prices, row, dear), dear

    def test_worths_made_by_others(self):
        for book, prices, row, price, worths, dear in self.cases():
            way = -1 if dear else 1
            self.check(book, prices, row, price, worths, dear, True)
            self.check(book, prices, row, price, worths[::-1], dear, True)
            self.check(book, prices, row, price + way, worths, dear, False)
            self.check(book, prices, row, price - way, worths, dear, True)
            self.check(book, prices, row, -10 ** 50 if not dear else 10 ** 50, worths, dear, True)
            self.check(book, prices, row, 10 ** 50 if not dear else -10 ** 50, worths, dear, False)

    def test_of_the_other_side(self):
        for book, prices, row, price, worths, dear in self.cases():
            for other in [price - 1, price, price + 1, -10 ** 50, 10 ** 50]:
                self.check(book, prices, row, other, worths, not dear)

    def test_worths_of_other_prices(self):
        for book, prices, row, price, worths, dear in self.cases():
            for at in range(len(prices)):
                for more in [-1, 1]:
                    changed = prices[:at] + [max(0, prices[at] + more)] + prices[at + 1:]
                    self.check(book, changed, row, price, worths, dear)
                    self.check(book, changed, row, price + more, worths, dear)

    def test_one_left_out_and_one_twice(self):
        for book, prices, row, price, worths, dear in self.cases():
            for at in range(0, len(worths), 1 + len(worths) // 60):
                self.check(book, prices, row, price, worths[:at] + worths[at + 1:], dear, False)
                self.check(book, prices, row, price, worths + [worths[at]], dear, False)
                self.check(book, prices, row, price, worths + [(worths[at][0], worths[at][1] + 1)], dear, False)

    def test_numbers_too_great_or_too_small_by_one(self):
        for book, prices, row, price, worths, dear in self.cases():
            way = -1 if dear else 1
            for at in range(0, len(worths), 1 + len(worths) // 90):
                entry, number = worths[at]
                # Each number is just the sum of some premises': beyond it is too far.
                self.check(book, prices, row, price, replaced(worths, at, (entry, number + way)), dear, False)
                self.check(book, prices, row, price, replaced(worths, at, (entry, number - way)), dear)

    def test_each_kind_of_rule(self):
        # The entries whose numbers are bent, each by the rule that it comes by, with whether the rest bears one less.
        worths = exact_worths(BOOK, PRICES, ROW, False)
        for entry, kind in [
            (("s", (0,), True, (0, -1, -1, 1)), "sign"), (("s", (2,), True, (1, -1, -1, 1)), "void"),
            (("m", (1,), True, (1, 1, 2, 2)), "foot"), (("t", (1,), True, (1, -1, -1, 2)), "hole"),
            (("t", (), False, (0, -1, -1, 2)), "a whole, not done"), (("s", (1,), False, (1, -1, -1, 2)), "not done"),
            (("s", (1,), True, (1, -1, -1, 2)), "done, taking nothing"), (("u", (0,), True, (0, -1, -1, 2)), "done, with a graft"),
            (("u", (0,), True, (1, -1, -1, 2)), "done, without a graft"), (("m", (), False, (0, 1, 2, 2)), "a graft, not done"),
        ]:
            at = [entry for entry, number in worths].index(entry)
            number = worths[at][1]
            self.check(BOOK, PRICES, ROW, 6, replaced(worths, at, (entry, number + 1)), False, False)
            self.check(BOOK, PRICES, ROW, 6, replaced(worths, at, (entry, number - 1)), False)
        worths = exact_worths(BOOK, PRICES, ROW, True)
        for at, (entry, number) in enumerate(worths):
            self.check(BOOK, PRICES, ROW, 10, replaced(worths, at, (entry, number - 1)), True, False)
            self.check(BOOK, PRICES, ROW, 10, replaced(worths, at, (entry, number + 1)), True)

    def test_goals(self):
        for book, prices, row, price, worths, dear in self.cases():
            way = -1 if dear else 1
            for goal in goals_of(book, row):
                listed = [worth for worth in worths if worth[0] != goal]
                for number in [price - 1, price, price + 1, price - way * 5]:
                    self.check(book, prices, row, price, listed + [(goal, number)], dear)
                    self.check(book, prices, row, number, listed + [(goal, number)], dear)
            self.check(book, prices, row, price, [worth for worth in worths if worth[0] not in goals_of(book, row)], dear, False)

    def test_no_goal_listed(self):
        for row in [("c",), ("b",), ()]:
            for dear in [False, True]:
                worths = exact_worths(BOOK, PRICES, row, dear)
                if not any(goal in dict(worths) for goal in goals_of(BOOK, row)):
                    for price in [0, 10 ** 40, -10 ** 40]:
                        self.check(BOOK, PRICES, row, price, worths, dear, False)
        # Where a goal is listed that doesn't come, it is borne out all the same, so far as the rest is closed.
        goal = ("s", (), True, (0, -1, -1, 1))
        for dear in [False, True]:
            worths = exact_worths(BOOK, PRICES, ("c",), dear)
            for number in [4, 5, 6]:
                self.check(BOOK, PRICES, ("c",), 5, worths + [(goal, number)], dear, number <= 5 if dear else number >= 5)

    def test_entries_that_do_not_come(self):
        row = ROW
        worths = exact_worths(BOOK, PRICES, row, False)
        for more in [
            ("k", (), False, (0, 0, 0, 0)), ("k", (), True, (0, 0, 1, 1)), ("m", (), True, (0, 0, 0, 0)),
            ("n", (), True, (0, -1, -1, 0)), ("t", (1,), True, (0, -1, -1, 2)), ("s", (1,), False, (0, -1, -1, 0)),
        ]:
            for number in [-5, 0, 3, 100]:
                self.check(BOOK, PRICES, row, 6, worths + [(more, number)], False)
                listed = closed_list(BOOK, row, {entry for entry, other in worths} | {more})
                known = dict(worths)
                low = [(entry, known.get(entry, -1000)) for entry in listed]
                self.check(BOOK, PRICES, row, 6, low, False)
                self.check(BOOK, PRICES, row, -1000, low, False)

    def test_one_spoiled(self):
        worths = exact_worths(BOOK, PRICES, ROW, False)
        for at in range(0, len(worths), 7):
            for thing in spoiled(worths[at]):
                self.check(BOOK, PRICES, ROW, 6, replaced(worths, at, thing), False)
                if not (isinstance(thing, tuple) and len(thing) == 2 and looks_entry(BOOK, ROW, thing[0])):
                    self.check(BOOK, PRICES, ROW, 6, worths + [thing], False, False)

    def test_numbers_of_other_kinds(self):
        worths = exact_worths(BOOK, [0] * 7, ROW, False)
        self.check(BOOK, [0] * 7, ROW, 0, worths, False, True)
        for at in range(0, len(worths), 5):
            for other in [True, False, None, "0", (0,), [0], ()]:
                self.check(BOOK, [0] * 7, ROW, 0, replaced(worths, at, (worths[at][0], other)), False, False)

    def test_things_of_other_kinds(self):
        worths = exact_worths(BOOK, PRICES, ROW, False)
        deep = ()
        for count in range(98):
            deep = (deep,)
        for thing in ODD_THINGS + [tuple(worths), [worths], (worths,), deep, [deep], [entry for entry, number in worths]]:
            self.check(BOOK, PRICES, ROW, 6, thing, False, False)
            self.check(BOOK, PRICES, ROW, 6, thing, True, False)
        self.check(BOOK, PRICES, ROW, 6, [list(worth) for worth in worths], False, False)
        self.check(BOOK, PRICES, ROW, 6, [worth + (0,) for worth in worths], False, False)
        self.check(BOOK, PRICES, ROW, 6, [worth[::-1] for worth in worths], False, False)
        self.check(BOOK, PRICES, ROW, 6, [(list(entry), number) for entry, number in worths], False, False)

    def test_books_made_by_chance(self):
        chance = random.Random(11)
        for seed in range(80):
            book = chance_book(seed, 1 + seed % 6)
            known = rows_and_plans(book, 4)
            for row in sorted(known, key=lambda row: (-len(known[row]), row))[:2] + [("b", "ab")]:
                prices = [chance.choice([0, 1, 2, 30]) for tree in book[1]]
                for dear in [False, True]:
                    worths = exact_worths(book, prices, row, dear)
                    costs = [cost_of(book, prices, plan) for plan in known.get(row, [])] + ([] if row in known else [0])
                    price = max(costs) if dear else min(costs)
                    self.check(book, prices, row, price, worths, dear, row in known)
                    for count in range(6 if worths else 0):
                        at = chance.randrange(len(worths))
                        number = worths[at][1] + chance.choice([-1, 1])
                        self.check(book, prices, row, price, replaced(worths, at, (worths[at][0], number)), dear)


def replaced(listed, at, thing):
    return listed[:at] + [thing] + listed[at + 1:]


if __name__ == "__main__":
    unittest.main()
