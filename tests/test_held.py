"""Points 2, 3, 4 and 27: books held against walkers."""

import time
import unittest

from graftsay.books import is_book
from graftsay.errors import GraftError, TooMany
from graftsay.held import held
from graftsay.plans import is_plan, is_whole
from tests.support import (
    A, B, BOUNDED, BOUNDED_PLANS, C, DENSE, ENDLESS, ROUNDS, VOID, Great, all_dresses, chain_of, chance_book,
    chance_walker, knot, numbered, one_key, plans_of_signs, row_in, sign, takes_row,
)

FOOT = ("foot", "M")
MAY, MUST = ("M", False), ("M", True)
S = ("hole", "S")
# Each row of a and b of an even length; of an odd one; with any number of signs; of a alone.
EVEN = (2, 0, (0,), ((0, "a", 1), (1, "a", 0), (0, "b", 1), (1, "b", 0)))
ODD = (2, 0, (1,), EVEN[3])
ALL = (1, 0, (0,), tuple((0, letter, 0) for letter in "abcdefghij"))
FIVES = (5, 1, (1, 3), tuple((state, letter, (state + add) % 5) for letter, add in [("a", 1), ("b", 2), ("c", 4)] for state in range(5)))
FEW = (3, 0, (2,), ((0, "a", 1), (1, "a", 2), (2, "b", 2)))
NO_ENDS = (4, 0, (), ALL[3])
NO_STEPS = (2, 0, (0, 1), ())
WALKERS = [EVEN, ODD, ALL, FIVES, FEW, NO_ENDS, NO_STEPS]
# Grafts put in grafts, at knots that may and that must take, ahead of feet, above and beneath them.
GRAFTS = numbered([
    knot("S", knot("X", A, takes=MAY), knot("Y", VOID, takes=("K", True))),
    knot("S", B, takes=("K", False)),
    knot("X", A, knot("Y", FOOT, takes=("K", False)), B, takes=("K", False)),
    knot("X", knot("Y", A, takes=("K", False)), FOOT),
    knot("X", B, ("foot", "K")),
    knot("X", knot("Y", ("foot", "K"), takes=("L", True)), A),
    knot("X", A, A, ("foot", "L")),
    knot("X", ("foot", "L"), ("hole", "T")),
])
GRAFTS = ("S", GRAFTS[1][:-1] + (("k7", knot("X", ("foot", "L"), ("hole", "T"), B)), ("t", knot("T", A)), ("t2", knot("T", B, A))))


def elder(keys, plan):
    """A plan of the new book with the old keys."""
    return (keys[plan[0]], tuple((place, elder(keys, put)) for place, put in plan[1]))


def outline(tree):
    """A tree without names and what its knots take."""
    if tree[0] == "knot":
        return ("knot", tuple(outline(kid) for kid in tree[3]))
    return tree if tree[0] == "sign" else tree[0]


class Held(unittest.TestCase):
    def refused(self, book, walker):
        with self.assertRaises(TooMany) as caught:
            held(book, walker)
        self.assertIs(type(caught.exception), TooMany)
        self.assertIsInstance(caught.exception, GraftError)
        self.assertIsInstance(caught.exception, ValueError)
        self.assertEqual(caught.exception.most, 400)
        self.assertIs(type(caught.exception.most), int)

    def check_told(self, book, told):
        """What is told against the point's words, but for its plans."""
        self.assertIs(type(told), tuple)
        self.assertEqual(len(told), 2)
        new, keys = told
        self.assertIs(is_book(new), True)
        self.assertIs(type(keys), list)
        self.assertEqual([type(row) for row in keys], [tuple] * len(keys))
        self.assertEqual([key for key, old in keys], [key for key, tree in new[1]])
        trees = dict(book[1])
        for (key, tree), (same, old) in zip(new[1], keys):
            self.assertIs(type(old), str)
            self.assertEqual(outline(tree), outline(trees[old]))

    def check(self, book, walker, signs=None, plans=None, cap=20000):
        """Holds the whole plans of at most so many signs, or all plans of a book, against what is told."""
        before = repr((book, walker))
        dresses = all_dresses(book, walker)
        if len(dresses) > 400:
            self.refused(book, walker)
            return "many"
        plans = plans_of_signs(book, signs, cap) if plans is None else plans
        due = [plan for plan in plans if takes_row(walker, row_in(book, plan))]
        told = held(book, walker)
        self.assertEqual(repr(held(book, walker)), repr(told))
        self.assertEqual(repr((book, walker)), before)
        if told is None:
            self.assertEqual(due, [])
            return None
        self.check_told(book, told)
        new, keys = told
        mine = plans_of_signs(new, signs, cap) if signs is not None else plans_of_signs(new, 40, cap, one_key)
        self.assertEqual(sorted(elder(dict(keys), plan) for plan in mine), sorted(due))
        self.assertEqual(sorted(old for key, old in keys), sorted(key for key, own, marks in dresses))
        for plan in mine[:50]:
            self.assertIs(is_plan(new, plan), True)
            self.assertIs(is_whole(new, plan), True)
        return told

    def test_a_book_whose_plans_end(self):
        whole = [plan for plan in BOUNDED_PLANS if is_whole(BOUNDED, plan)]
        found = []
        for seed in range(20):
            found.append(self.check(BOUNDED, chance_walker(seed, tuple("abcdefghij")), plans=whole))
        for walker in WALKERS:
            found.append(self.check(BOUNDED, walker, plans=whole))
        self.assertGreater(sum(told is None for told in found), 5)
        self.assertGreater(sum(told not in (None, "many") and len(told[1]) > 12 for told in found), 5)

    def test_books_whose_plans_do_not_end(self):
        for book, signs in [(ENDLESS, 12), (DENSE, 4), (GRAFTS, 8), (ROUNDS[0], 11), (ROUNDS[1], 9), (ROUNDS[2], 10)]:
            for walker in WALKERS:
                if book is DENSE and walker is FIVES:
                    self.refused(book, walker)
                else:
                    self.check(book, walker, signs)
        for book in [ROUNDS[3], ROUNDS[4], ("Q", ENDLESS[1]), ("M", ENDLESS[1])]:
            for walker in WALKERS:
                self.assertIsNone(held(book, walker))

    def test_books_made_by_chance(self):
        found = {"none": 0, "some": 0, "many": 0}
        for seed in range(300):
            book = chance_book(seed, 1 + seed % 6)
            try:
                told = self.check(book, chance_walker(seed, ("a", "b", "ab")), 5, cap=2000)
            except Great:
                continue
            found["none" if told is None else "many" if told == "many" else "some"] += 1
        self.assertGreater(found["some"], 60)
        self.assertGreater(found["none"], 60)

    def test_nothing_taken(self):
        for book in [BOUNDED, ENDLESS, GRAFTS, ROUNDS[0]]:
            self.assertIsNone(held(book, NO_ENDS))
            self.assertIsNone(held(book, NO_STEPS))
            self.assertIsNone(held(book, (1, 0, (0,), ((0, "zz", 0),))))
        self.assertIsNone(held(numbered([knot("S", A)]), EVEN))
        self.assertIsNotNone(held(numbered([knot("S", A)]), ODD))
        # Rows of an odd length alone.
        self.assertIsNone(held(ROUNDS[0], EVEN))

    def test_by_hand(self):
        book = ("S", (("s", knot("S", A, takes=MAY)), ("m", knot("X", A, FOOT, takes=MAY))))
        new, keys = self.check(book, EVEN, 8)
        self.assertEqual([old for key, old in keys if old == "s"], ["s"])
        self.assertEqual(len(plans_of_signs(new, 8)), 4)
        new, keys = self.check(book, ALL, 8)
        self.assertEqual([old for key, old in keys], ["s", "m"])
        self.assertEqual(len(plans_of_signs(new, 8)), 8)

    def test_a_knot_that_may_take_what_goes_round(self):
        # Between the same states the knot takes something or nothing.
        for takes in [MAY, MUST]:
            for walker in [EVEN, ODD, ALL, FIVES]:
                book = numbered([knot("S", knot("X", A, takes=takes), A), knot("X", B, FOOT, B), knot("X", B, FOOT)])
                self.check(book, walker, 9)
                book = numbered([knot("S", A, A, takes=takes), knot("X", B, FOOT, B, takes=MAY), knot("Y", FOOT, S, A)])
                self.check(book, walker, 8)

    def test_names_keep_apart(self):
        # Names of starts, of grafts and of knots alike, and such as the new ones may be.
        for name in ["S", "TOP", "N0", "N1", "T", "N" * 24]:
            hole = ("hole", name)
            book = (name, (
                ("k0", knot(name, A, takes=(name, False))), ("k1", knot(name, B, hole, takes=("N2", False))),
                ("top", knot(name, ("foot", name), A, takes=(name, False))), ("n" * 24, knot("TOP", A, ("foot", "N2"), hole)),
            ))
            for walker in [EVEN, ODD, ALL]:
                self.check(book, walker, 6)

    def test_several_ends_and_starts(self):
        book = numbered([knot("S", A, S), knot("S", A), knot("S", B, B), knot("S", B, S, S)])
        for ends in [(0,), (1,), (0, 2, 3), (0, 1, 2, 3, 4), ()]:
            for begin in [0, 1, 4]:
                self.check(book, (5, begin, ends, FIVES[3]), 4)

    def test_just_so_many(self):
        # With the walker of one state each start stands once as a whole plan's own, and once in a hole.
        def starts(many):
            return [knot("S", A, S)] * (many - 1) + [knot("S", A)]
        self.assertEqual(len(held(numbered(starts(200)), ALL)[1]), 400)
        self.refused(numbered(starts(201)), ALL)
        once = knot("S", A, ("hole", "T"))
        self.assertEqual(len(held(numbered(starts(198) + [once, knot("T", B)]), ALL)[1]), 399)
        self.refused(numbered(starts(199) + [once, knot("T", B)]), ALL)
        # A start that no hole takes stands as an own one alone.
        self.assertEqual(len(held(numbered([knot("S", A)] * 400), ALL)[1]), 400)
        self.assertEqual(len(held(numbered([knot("S", A, ("hole", "T"))] + [knot("T", B)] * 399), ALL)[1]), 400)

    def test_just_so_many_with_grafts(self):
        grafts = [knot("X", A, FOOT, takes=MAY)] * 398
        for starts, many in [
            ([knot("S", A, takes=MAY)], 399), ([knot("S", A, takes=MAY), knot("S", B)], 400),
            ([knot("S", A, ("hole", "T"), takes=MAY), knot("T", A)], 400),
        ]:
            self.assertEqual(len(held(numbered(starts + grafts), ALL)[1]), many)
        self.refused(numbered([knot("S", A, takes=MAY), knot("X", A, FOOT, S)] + grafts), ALL)
        self.assertEqual(len(held(numbered([knot("S", A, takes=MAY), knot("X", A, FOOT, S)] + grafts[1:]), ALL)[1]), 400)
        # Of trees that no whole plan has, or none that is taken, nothing is counted.
        idle = [knot("T", A, takes=MAY), knot("S", sign("z"), S), knot("S", A, ("hole", "Q"), S)]
        self.assertEqual(len(held(numbered([knot("S", A, takes=MAY)] + grafts[3:] + idle), ALL)[1]), 396)

    def test_just_so_many_by_states(self):
        # Between five states: those ahead of each hole, 5 by 5 of what stands in it, 1 that leads on.
        five = (5, 0, (0, 1, 2, 3, 4), tuple((state, letter, other) for letter, other in zip("abcde", range(5)) for state in range(5)))
        tree = knot("T", ("hole", "U"), ("hole", "U"), A)
        leaves = [knot("U", sign(letter)) for letter in "abcde"]
        for more in range(12):
            book = numbered([knot("S", knot("X", ("hole", "T"), B))] + [tree] * more + leaves)
            # The start once for each way; T from the state 0: 5 by 5 states behind its holes; U from each of 5 states.
            due = (1 if more else 0, 25 * more, 25 if more else 0)
            told = held(book, five)
            self.assertEqual(0 if told is None else len(told[1]), sum(due))
        self.assertEqual(len(held(numbered([knot("S", ("hole", "T"), B)] + [tree] * 14 + leaves), five)[1]), 376)
        self.refused(numbered([knot("S", ("hole", "T"), B)] + [tree] * 15 + leaves), five)
        more = [knot("S", letter) for letter in [A] * 24]
        self.assertEqual(len(held(numbered([knot("S", ("hole", "T"), B)] + [tree] * 14 + leaves + more), five)[1]), 400)
        self.refused(numbered([knot("S", ("hole", "T"), B)] + [tree] * 14 + leaves + more + [knot("S", B)]), five)

    def test_great_books(self):
        began = time.monotonic()
        for many in [200, 400]:
            book = chain_of(many, last=C)
            for trees in [book[1], book[1][::-1]]:
                told = held(("S", trees), ALL)
                self.check_told(("S", trees), told)
                self.assertEqual(len(told[1]), many)
        self.assertIsNone(held(chain_of(400), ODD))
        self.assertEqual(len(held(chain_of(400), EVEN)[1]), 400)
        wide = [knot("S", *[knot("X", A, *[("hole", "S")] * 7) for count in range(6)]), knot("S", A), knot("S", B), knot("S", C)]
        self.refused(numbered(wide), FIVES)
        grafts = [
            knot("X", one, knot("Y", knot("Z", FOOT, takes=MAY), two, takes=MAY), takes=MAY) for one in (A, B, C) for two in (A, B, C)]
        self.refused(numbered([knot("S", A, takes=MAY)] + grafts * 44), FIVES)
        self.assertLess(time.monotonic() - began, 30)

    def test_lists_are_new(self):
        first, second = held(GRAFTS, ALL), held(GRAFTS, ALL)
        self.assertIsNot(first[1], second[1])
        kept = repr(second)
        first[1].clear()
        first[1].append("mine")
        self.assertEqual(repr(second), kept)
        self.assertEqual(repr(held(GRAFTS, ALL)), kept)


if __name__ == "__main__":
    unittest.main()
