"""Points 2, 4 and 12: what plans build, and their rows."""

import unittest

from graftsay.building import built, row_of
from tests.support import BOUNDED, BOUNDED_PLANS, ENDLESS, ENDLESS_PLANS, VOID, grown, keys_in, knot, pieces, sign

A, B, C, D, E, F = [sign(letter) for letter in "abcdef"]
FOOT = ("foot", "M")

# One tree for each way of putting something in.
BOOK = ("S", (
    ("hole", knot("S", A, ("hole", "N"), B)),
    ("two", knot("S", ("hole", "N"), A, knot("X", ("hole", "N"), VOID))),
    ("whole", knot("S", A, knot("X", B), takes=("M", False))),
    ("inner", knot("S", A, knot("X", B, knot("Y", C, takes=("M", False)), takes=("M", True)), D)),
    ("n", knot("N", C, D)),
    ("nn", knot("N", E, ("hole", "P"))),
    ("p", knot("P", F, takes=("M", False))),
    ("m", knot("M", E, FOOT, F)),
    ("above", knot("M", E, knot("Z", FOOT, D, takes=("M", False)), takes=("M", False))),
    ("filled", knot("Q", knot("R", ("hole", "P")), FOOT, knot("T", D, takes=("M", True)))),
))
M = ("m", ())
HAND = [
    # At holes.
    (("hole", (((1,), ("n", ())),)), knot("S", A, knot("N", C, D), B), "acdb"),
    (("two", (((0,), ("n", ())), ((2, 0), ("nn", (((1,), ("p", ())),))))),
     knot("S", knot("N", C, D), A, knot("X", knot("N", E, knot("P", F)), VOID)), "cdaef"),
    # Nothing put at a whole that may take something.
    (("whole", ()), knot("S", A, knot("X", B)), "ab"),
    # At the whole: the old whole hangs on the foot.
    (("whole", (((), M),)), knot("M", E, knot("S", A, knot("X", B)), F), "eabf"),
    # At knots within one another.
    (("inner", (((1,), M),)), knot("S", A, knot("M", E, knot("X", B, knot("Y", C)), F), D), "aebcfd"),
    (("inner", (((1,), M), ((1, 1), M))),
     knot("S", A, knot("M", E, knot("X", B, knot("M", E, knot("Y", C), F)), F), D), "aebecffd"),
    # Grafts: nothing put in, at the whole of one, above its foot, at both.
    (M, knot("M", E, FOOT, F), "ef"),
    (("above", ()), knot("M", E, knot("Z", FOOT, D)), "ed"),
    (("above", (((), M),)), knot("M", E, knot("M", E, knot("Z", FOOT, D)), F), "eedf"),
    (("above", (((1,), M),)), knot("M", E, knot("M", E, knot("Z", FOOT, D), F)), "eedf"),
    (("above", (((), M), ((1,), M))), knot("M", E, knot("M", E, knot("M", E, knot("Z", FOOT, D), F)), F), "eeedff"),
    # Beside the foot.
    (("filled", (((0, 0), ("p", (((), M),))), ((2,), M))),
     knot("Q", knot("R", knot("M", E, knot("P", F), F)), FOOT, knot("M", E, knot("T", D), F)), "effedf"),
    # Several within one another: what hangs on the foot has something put beneath it, too.
    (("whole", (((), ("above", (((), M), ((1,), ("above", ())))),),)),
     knot("M", E, knot("M", E, knot("M", E, knot("Z", knot("Z", knot("S", A, knot("X", B)), D), D))), F), "eeeabddf"),
    (("inner", (((1,), ("above", (((1,), M),))), ((1, 1), ("above", (((), M),))))),
     knot("S", A, knot("M", E, knot("M", E, knot("Z", knot(
         "X", B, knot("M", E, knot("M", E, knot("Z", knot("Y", C), D)), F)), D), F)), D), "aeebeecdfdfd"),
]


def bare_feet(tree):
    return [piece for piece in pieces(tree) if piece[0] == "foot"]


class Built(unittest.TestCase):
    def test_by_hand(self):
        for plan, tree, row in HAND:
            self.assertEqual(grown(BOOK, plan), tree, plan)
            told = built(BOOK, plan)
            self.assertEqual(told, tree, plan)
            self.assertEqual(repr(told), repr(tree))
            self.assertEqual(row_of(BOOK, plan), tuple(row), plan)

    def test_all_plans(self):
        for book, plans in [(BOUNDED, BOUNDED_PLANS), (ENDLESS, ENDLESS_PLANS)]:
            for plan in plans:
                told = built(book, plan)
                self.assertEqual(told, grown(book, plan), plan)
                row = row_of(book, plan)
                self.assertIsInstance(row, tuple)
                self.assertEqual(row, tuple(piece[1] for piece in pieces(told) if piece[0] == "sign"))

    def test_knots_take_nothing_and_holes_are_filled(self):
        for book, plans in [(BOUNDED, BOUNDED_PLANS), (ENDLESS, ENDLESS_PLANS)]:
            for plan in plans:
                for piece in pieces(built(book, plan)):
                    self.assertNotEqual(piece[0], "hole")
                    if piece[0] == "knot":
                        self.assertIsNone(piece[2])

    def test_grafts_keep_one_foot(self):
        for book, plans in [(BOUNDED, BOUNDED_PLANS), (ENDLESS, ENDLESS_PLANS)]:
            for plan in plans:
                own = bare_feet(dict(book[1])[plan[0]])
                self.assertEqual(bare_feet(built(book, plan)), own, plan)

    def test_signs_are_those_of_the_keys(self):
        for book, plans in [(BOUNDED, BOUNDED_PLANS), (ENDLESS, ENDLESS_PLANS)]:
            trees = dict(book[1])
            for plan in plans:
                signs = [piece[1] for key in keys_in(plan) for piece in pieces(trees[key]) if piece[0] == "sign"]
                self.assertEqual(sorted(row_of(book, plan)), sorted(signs))

    def test_rows_that_no_holes_can_make(self):
        plan = ("g", ())
        for count in range(9):
            plan = ("g", (((1,), plan),))
        row = row_of(ENDLESS, ("s", (((1,), plan),)))
        # Each graft lays its a and d round all, and its b and c round what hung there.
        self.assertEqual(row, tuple("a" + "a" * 10 + "b" * 10 + "b" + "c" * 10 + "d" * 10 + "c"))

    def test_plan_and_book_stay(self):
        before = repr((BOOK, HAND))
        for plan, tree, row in HAND + HAND:
            self.assertEqual(built(BOOK, plan), tree)
            self.assertEqual(row_of(BOOK, plan), tuple(row))
        self.assertEqual(repr((BOOK, HAND)), before)


if __name__ == "__main__":
    unittest.main()
