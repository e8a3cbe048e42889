"""Points 2, 8 and 11: takers, plans, whole plans, sizes."""

import unittest

from graftsay.plans import is_plan, is_whole, size_of, takers
from tests.support import (
    A, B, BOUNDED, BOUNDED_PLANS, ENDLESS, ENDLESS_PLANS, VOID, keys_in, knot, pieces, put_keys, spoiled,
)

# What the plans of this book are is written out below.
BOOK = ("S", (
    ("s", knot("S", A, knot("X", ("hole", "N"), takes=("M", True)), takes=("M", False))),
    ("n", knot("N", B)),
    ("n2", knot("N", A, B)),
    ("m", knot("S", B, ("foot", "M"))),
    ("e", knot("S", B)),
    ("o", knot("N", A, ("foot", "N"))),
    ("t", knot("M", B)),
))
N, M = ("n", ()), ("m", ())
SOUND = [
    N, M, ("n2", ()), ("e", ()), ("o", ()), ("t", ()),
    ("s", (((1,), M), ((1, 0), N))),
    ("s", (((), M), ((1,), M), ((1, 0), N))),
    ("s", (((), M), ((1,), M), ((1, 0), ("n2", ())))),
]
FALSE = [
    # Something left out that must be there.
    ("s", ()), ("s", (((1,), M),)), ("s", (((1, 0), N),)), ("s", (((), M),)), ("s", (((), M), ((1,), M))),
    # Twice, and turned about.
    ("s", (((1,), M), ((1, 0), N), ((1, 0), N))), ("s", (((1,), M), ((1,), M), ((1, 0), N))),
    ("s", (((), M), ((), M), ((1,), M), ((1, 0), N))), ("s", (((1, 0), N), ((1,), M))),
    ("s", (((1,), M), ((), M), ((1, 0), N))), ("s", (((1,), M), ((1, 0), N), ((), M))),
    # At another place, and where there is none.
    ("s", (((0,), M), ((1,), M), ((1, 0), N))), ("s", (((1,), M), ((1, 0), N), ((2,), N))),
    ("s", (((1,), M), ((1, 1), N))), ("s", (((1,), M), ((1, 0), N), ((1, 0, 0), N))), ("s", (((-1,), M), ((-1, 0), N))),
    ("s", (((1,), M), ((1, -1), N))), ("n", (((0,), N),)), ("n", (((), M),)), ("n", (((7,), N),)),
    ("m", (((1,), M),)), ("m", (((), M),)), ("s", (((1,), M), ((1, 0), N), ((10 ** 40,), N))),
    # Truths in places.
    ("s", (((True,), M), ((1, 0), N))), ("s", (((1,), M), ((True, False), N))), ("s", (((1,), M), ((1, False), N))),
    # Lists for tuples.
    ["s", (((1,), M), ((1, 0), N))], ("s", [((1,), M), ((1, 0), N)]), ("s", ([(1,), M], ((1, 0), N))),
    ("s", (([1], M), ((1, 0), N))), ("s", (((1,), ["m", ()]), ((1, 0), N))), ("s", (((1,), ("m", [])), ((1, 0), N))),
    ["n", ()], ("n", []),
    # Other keys, and trees that can't be put there.
    ("x", ()), ("S", ()), ("", ()), ("s\n", ()), ("s", (((1,), ("x", ())), ((1, 0), N))), ("s", (((1,), N), ((1, 0), N))),
    ("s", (((1,), M), ((1, 0), M))), ("s", (((1,), M), ((1, 0), ("o", ())))), ("s", (((1,), M), ((1, 0), ("e", ())))),
    ("s", (((1,), ("e", ())), ((1, 0), N))), ("s", (((1,), ("o", ())), ((1, 0), N))),
    ("s", (((1,), ("t", ())), ((1, 0), N))), ("s", (((), N), ((1,), M), ((1, 0), N))),
    ("n", (((1,), M), ((1, 0), N))), ("e", (((1,), M), ((1, 0), N))),
    # Wrong within.
    ("s", (((1,), ("m", (((0,), N),))), ((1, 0), N))), ("s", (((1,), M), ((1, 0), ("n", (((), M),))))),
    ("s", (((1,), M), ((1, 0), ("s", ())))), ("s", (((1,), M), ((1, 0), None))), ("s", (((1,), M), ((1, 0), "n"))),
    # More or fewer things, and other ones.
    (), ("n",), ("n", (), ()), ("n", ((),)), ("n", (None,)), ("n", (0,)), ("n", "n"), ("n", ""), ("n", None), ("n", 0),
    ("n", False), (None, ()), (0, ()), (True, ()), (("n",), ()), (["n"], ()), ([], ()), ((), ()), (N,), (N, ()), ((), "n"),
    ("s", (((1,), M, M), ((1, 0), N))), ("s", (((1,),), ((1, 0), N))), ("s", ((1, M), ((1, 0), N))),
    ("s", ((None, M), ((1, 0), N))), ("s", (("1", M), ((1, 0), N))), ("s", ((("1",), M), ((1, 0), N))),
    ("s", (((None,), M), ((1, 0), N))), ("s", ((((1,),), M), ((1, 0), N))), ("s", (M, (1,), N, (1, 0))), ("s", ((1,), M)),
    ("s", ((M, (1,)), (N, (1, 0)))), ((((1,), M), ((1, 0), N)), "s"), None, True, False, 0, 1, 10 ** 59, "", "n", "( n )",
    [], [()], [N], ["n"],
]


class Takers(unittest.TestCase):
    def test_holes_take_starts_of_their_name(self):
        self.assertEqual(takers(BOOK, ("hole", "N")), ["n", "n2"])
        self.assertEqual(takers(BOOK, ("hole", "S")), ["s", "e"])
        self.assertEqual(takers(BOOK, ("hole", "M")), ["t"])
        self.assertEqual(takers(BOOK, ("hole", "X")), [])

    def test_knots_take_grafts_of_the_name_taken(self):
        for must in [True, False]:
            self.assertEqual(takers(BOOK, knot("S", A, takes=("M", must))), ["m"])
            self.assertEqual(takers(BOOK, knot("X", A, takes=("N", must))), ["o"])
            self.assertEqual(takers(BOOK, knot("M", A, takes=("S", must))), [])

    def test_other_pieces_take_none(self):
        for piece in [A, VOID, ("foot", "M"), ("foot", "N"), ("sign", "n"), knot("S", A), knot("M", A), knot("N", ("hole", "N"))]:
            self.assertEqual(takers(BOOK, piece), [])

    def test_takers_of_all_pieces(self):
        for book in [BOOK, BOUNDED, ENDLESS]:
            for key, tree in book[1]:
                for piece in pieces(tree):
                    self.assertEqual(takers(book, piece), put_keys(book, piece))

    def test_the_books_order(self):
        top, trees = BOOK
        turned = (top, trees[::-1])
        self.assertEqual(takers(turned, ("hole", "N")), ["n2", "n"])
        self.assertEqual(takers(turned, ("hole", "S")), ["e", "s"])

    def test_takers_are_told_anew(self):
        first, second = takers(BOOK, ("hole", "N")), takers(BOOK, ("hole", "N"))
        self.assertIsInstance(first, list)
        self.assertIsNot(first, second)
        first.append("mine")
        first[0] = "mine"
        self.assertEqual(second, ["n", "n2"])
        self.assertEqual(takers(BOOK, ("hole", "N")), ["n", "n2"])
        none = takers(BOOK, A)
        none.append("mine")
        self.assertEqual(takers(BOOK, A), [])


class Plans(unittest.TestCase):
    def test_plans(self):
        for plan in SOUND:
            self.assertIs(is_plan(BOOK, plan), True, plan)

    def test_what_is_none(self):
        for thing in FALSE:
            self.assertIs(is_plan(BOOK, thing), False, repr(thing))

    def test_all_plans(self):
        self.assertGreater(len(BOUNDED_PLANS), 400)
        for book, plans in [(BOUNDED, BOUNDED_PLANS), (ENDLESS, ENDLESS_PLANS)]:
            for plan in plans:
                self.assertIs(is_plan(book, plan), True, plan)

    def test_plans_are_of_their_book_alone(self):
        for plan in BOUNDED_PLANS:
            if plan[0] != "s":
                self.assertIs(is_plan(ENDLESS, plan), False, plan)
        for key, tree in BOUNDED[1]:
            rest = (BOUNDED[0], tuple(row for row in BOUNDED[1] if row[0] != key))
            for plan in BOUNDED_PLANS:
                self.assertIs(is_plan(rest, plan), key not in keys_in(plan), plan)

    def test_spoiled_plans(self):
        # The plans of this book end: so what is not among them is none. Truths equal numbers, their texts don't.
        sound = {repr(plan) for plan in BOUNDED_PLANS}
        odd = [None, True, 0, 1, "", "s", "n", "top", (), [], (0,), (1,), (True,), ("n", ()), ("m", ()), ("p", ())]
        by_key = {}
        for plan in BOUNDED_PLANS:
            by_key.setdefault((plan[0], len(keys_in(plan))), plan)
        self.assertGreater(len(by_key), 20)
        for plan in by_key.values():
            for thing in spoiled(plan, odd):
                self.assertIs(is_plan(BOUNDED, thing), repr(thing) in sound, repr(thing))

    def test_plans_within_one_another(self):
        plan = ("g", ())
        for count in range(18):
            plan = ("g", (((1,), plan),))
        whole = ("s", (((1,), plan),))
        self.assertIs(is_plan(ENDLESS, whole), True)
        self.assertEqual(size_of(whole), 20)
        spoiled_plan = ("s", ())
        for count in range(18):
            spoiled_plan = ("g", (((1,), spoiled_plan),))
        self.assertIs(is_plan(ENDLESS, ("s", (((1,), spoiled_plan),))), False)

    def test_deep_things(self):
        listed, tupled, planned = [], (), None
        for count in range(98):
            listed, tupled = [listed], (tupled,)
        for count in range(32):
            planned = ("g", (((1,), planned),))
        for thing in [listed, tupled, planned, ("s", tupled[0]), ("s", ((tupled[0][0], N),))]:
            self.assertIs(is_plan(ENDLESS, thing), False)

    def test_book_and_plan_stay(self):
        before = repr((BOUNDED, BOUNDED_PLANS[0]))
        for count in range(2):
            self.assertIs(is_plan(BOUNDED, BOUNDED_PLANS[0]), True)
            self.assertIs(is_plan(BOUNDED, None), False)
        self.assertEqual(repr((BOUNDED, BOUNDED_PLANS[0])), before)


class Whole(unittest.TestCase):
    def test_starts_named_as_the_top_alone(self):
        for plan in SOUND:
            self.assertIs(is_whole(BOOK, plan), plan[0] in ("s", "e"), plan)

    def test_of_all_plans(self):
        for plan in BOUNDED_PLANS:
            # k2 is a graft whose whole is named S: it is none of the starts of that name.
            self.assertIs(is_whole(BOUNDED, plan), plan[0] in ("s", "t"), plan)

    def test_of_other_tops(self):
        for top, keys in [("N", ("n", "o")), ("K", ()), ("M", ()), ("P", ("p",)), ("T", ("u",)), ("Q", ())]:
            for plan in BOUNDED_PLANS:
                self.assertIs(is_whole((top, BOUNDED[1]), plan), plan[0] in keys, (top, plan))


class Sizes(unittest.TestCase):
    def test_sizes(self):
        self.assertEqual(size_of(N), 1)
        self.assertEqual(size_of(SOUND[6]), 3)
        self.assertEqual(size_of(SOUND[7]), 4)
        self.assertEqual(size_of(("a", (((0,), ("a", (((0,), ("a", ())), ((1,), ("b", ()))))), ((2,), ("a", ()))))), 5)

    def test_sizes_of_all(self):
        for plan in BOUNDED_PLANS + ENDLESS_PLANS:
            self.assertEqual(size_of(plan), len(keys_in(plan)))


if __name__ == "__main__":
    unittest.main()
