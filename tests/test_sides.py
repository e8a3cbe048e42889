"""Points 2, 3, 4 and 28: books whose grafts are all put in from one side, told as books without grafts."""

import itertools
import random
import time
import unittest

from graftsay.books import is_book
from graftsay.errors import GraftError, TooMany, TwoSided
from graftsay.sides import one_sided, without_grafts
from tests.support import (
    A, B, BOUNDED, C, DENSE, ENDLESS, ROUNDS, VOID, Great, chance_book, chance_knot, knot, many_of_signs, numbered,
    pieces, rows_and_plans, tree_fault, walked,
)

FOOT = ("foot", "M")
MAY, MUST = ("M", False), ("M", True)
S = ("hole", "S")


def leaves(tree):
    return [piece for piece in pieces(tree) if piece[0] != "knot"]


def two_sided(book):
    """The keys of the grafts whose foot isn't behind all other leaves."""
    found = []
    for key, tree in book[1]:
        kinds = [leaf[0] for leaf in leaves(tree)]
        if "foot" in kinds and kinds.index("foot") != len(kinds) - 1:
            found.append(key)
    return found


def choices(book):
    """The sum of 2 ** n, n how many knots of a tree may take something."""
    return sum(2 ** sum(piece[0] == "knot" and bool(piece[2]) and not piece[2][1] for piece in pieces(tree)) for key, tree in book[1])


def last_foot(chance, tree, name):
    """A knot with a foot behind all that it has."""
    knots = [()]
    piece = tree
    while piece[3][-1][0] == "knot":
        knots.append(knots[-1] + (len(piece[3]) - 1,))
        piece = piece[3][-1]
    at = chance.choice(knots)

    def put(place, piece):
        if place == at:
            return piece[:3] + (piece[3] + (("foot", name),),)
        return piece[:3] + (piece[3][:-1] + (put(place + (len(piece[3]) - 1,), piece[3][-1]),),)

    return put((), tree)


def chance_sided(seed, many, names=("S", "M", "SM")):
    """A one-sided book made by chance."""
    chance = random.Random(seed)
    trees = []
    while len(trees) < many:
        tree = chance_knot(chance, chance.choice([1, 1, 2, 3]), names)
        if chance.random() < 0.5:
            tree = last_foot(chance, tree, chance.choice(names))
        if tree_fault(tree) is None:
            trees.append(("k" + str(len(trees)), tree))
    return ("S", tuple(trees) + (("end", knot("S", A, takes=(chance.choice(names), False))),))


# Grafts that are put in again and again, at knots that may and that must take, along the way to the foot and beside it.
GRAFTS = ("S", (
    ("s", knot("S", A, knot("X", B, takes=MAY), C)),
    ("t", knot("S", VOID, knot("X", S, VOID, takes=MUST), A, takes=("K", False))),
    ("m", knot("X", B, knot("Y", FOOT, takes=("K", False)), takes=MAY)),
    ("m2", knot("X", knot("Y", S, takes=("K", True)), A, knot("Y", knot("Z", FOOT)))),
    ("k", knot("X", C, ("foot", "K"))),
))
SIDED = [
    GRAFTS, ROUNDS[0], ROUNDS[3], ("K", GRAFTS[1]), ("Q", GRAFTS[1]),
    ("S", (("s", knot("S", A, takes=MAY)), ("m", knot("S", B, FOOT, takes=MAY)))),
    ("S", (("s", knot("S", A, takes=MUST)), ("m", knot("S", B, knot("S", VOID, FOOT, takes=MAY))))),
    ("S", (("s", knot("S", A, takes=MUST)),)),
    ("S", (("s", knot("S", A, takes=MUST)), ("m", knot("M", A, FOOT, takes=MUST)))),
]
NO_PLANS = [ROUNDS[3], ("K", GRAFTS[1]), ("Q", GRAFTS[1]), SIDED[-2], SIDED[-1]]


class OneSided(unittest.TestCase):
    def check(self, book, expected=None):
        told = one_sided(book)
        self.assertIs(type(told), bool)
        self.assertIs(told, not two_sided(book), book)
        if expected is not None:
            self.assertIs(told, expected, book)

    def test_by_hand(self):
        for book in SIDED + [numbered([knot("S", A)])]:
            self.check(book, True)
        for book in [ENDLESS, BOUNDED, DENSE, ROUNDS[1], ROUNDS[2]]:
            self.check(book, False)
        for tree in [
            knot("X", A, FOOT), knot("X", A, B, FOOT), knot("X", VOID, S, A, FOOT), knot("X", A, knot("Y", FOOT)),
            knot("X", A, knot("Y", B, knot("Z", FOOT))), knot("X", knot("Y", A), knot("Y", FOOT)), knot("X", knot("Y", A, FOOT)),
        ]:
            self.check(numbered([tree]), True)
        for tree in [
            knot("X", FOOT, A), knot("X", A, FOOT, VOID), knot("X", A, FOOT, S), knot("X", A, knot("Y", FOOT), B),
            knot("X", A, knot("Y", FOOT, VOID)), knot("X", knot("Y", FOOT), knot("Y", A)), knot("X", A, knot("Y", knot("Z", FOOT), S)),
            knot("X", A, knot("Y", FOOT), knot("Z", VOID)), knot("X", A, knot("Y", FOOT), knot("Z", knot("Z", S))),
        ]:
            self.check(numbered([tree]), False)
            self.check(numbered([knot("S", A)] * 3 + [tree]), False)

    def test_made_by_chance(self):
        found = []
        for seed in range(300):
            self.check(chance_sided(seed, 1 + seed % 8), True)
            book = chance_book(seed, 1 + seed % 3)
            self.check(book)
            found.append(one_sided(book))
        self.assertGreater(min(found.count(True), found.count(False)), 50)


class Refusing(unittest.TestCase):
    def refused(self, error, fields, book):
        before = repr(book)
        with self.assertRaises(error) as caught:
            without_grafts(book)
        self.assertIs(type(caught.exception), error)
        self.assertIsInstance(caught.exception, GraftError)
        self.assertIsInstance(caught.exception, ValueError)
        for name, value in fields.items():
            self.assertEqual(repr(getattr(caught.exception, name)), repr(value))
        self.assertEqual(repr(book), before)

    def test_two_sided(self):
        for book in [ENDLESS, BOUNDED, DENSE, ROUNDS[1], ROUNDS[2]]:
            self.refused(TwoSided, {"key": two_sided(book)[0]}, book)
            turned = (book[0], book[1][::-1])
            self.refused(TwoSided, {"key": two_sided(book)[-1]}, turned)
            # Also where there is no whole plan.
            self.refused(TwoSided, {"key": two_sided(book)[0]}, ("QQ", book[1]))

    def test_two_sided_goes_first(self):
        knots = [knot("X", A, takes=("Q", False)) for count in range(7)]
        for many in [0, 3, 50]:
            book = numbered([knot("S", A, *knots)] * many + [knot("X", *knots[:2], FOOT), knot("X", FOOT, A), knot("X", FOOT, B)])
            self.refused(TwoSided, {"key": "k" + str(many + 1)}, book)

    def test_too_many(self):
        def may(many):
            """A start with so many knots that may take something."""
            rows = [knot("X", A, takes=("Q", False)) for count in range(many)]
            return knot("S", A, *[knot("Y", *rows[at:at + 7]) for at in range(0, many, 7)])
        one, two = may(0), may(1)
        for trees, many in [
            ([one] * 400, 400), ([two] * 200, 400), ([two] * 200 + [one], 401), ([may(8)] + [one] * 144, 400),
            ([may(8)] + [one] * 145, 401), ([may(8), may(7), may(4)], 400), ([may(8), may(7), may(4), one], 401),
            ([may(9)], 512), ([may(3)] * 50, 400), ([may(3)] * 50 + [one], 401), ([may(3)] * 51, 408), ([may(29)], 2 ** 29),
            ([may(49)] * 2, 2 ** 50), ([two] * 400, 800), ([may(8), may(8)], 512), ([one] * 398 + [two], 400), ([one] * 399 + [two], 401),
        ]:
            book = numbered(trees)
            self.assertEqual(choices(book), many)
            for top in "SQ":
                if many > 400:
                    self.refused(TooMany, {"most": 400}, (top, book[1]))
                elif top == "S":
                    self.assertEqual(len(without_grafts(book)[1]) <= 400, True)
                else:
                    self.assertIsNone(without_grafts((top, book[1])))

    def test_what_must_be_taken_is_no_choice(self):
        rows = [knot("X", A, takes=MUST) for count in range(9)]
        tree = knot("S", knot("Y", *rows[:5]), knot("Y", *rows[5:]), takes=MUST)
        self.assertIsNotNone(without_grafts(numbered([tree, knot("X", A, FOOT)])))
        self.refused(TooMany, {"most": 400}, numbered([tree, knot("X", A, FOOT)] + [knot("S", A)] * 397 + [knot("S", A, takes=MAY)]))


class WithoutGrafts(unittest.TestCase):
    def check_told(self, told):
        self.assertIs(is_book(told), True)
        for key, tree in told[1]:
            self.assertFalse([piece for piece in pieces(tree) if piece[0] == "foot"])

    def check(self, book, signs, cap=20000):
        before = repr(book)
        told = without_grafts(book)
        self.assertEqual(repr(without_grafts(book)), repr(told))
        self.assertEqual(repr(book), before)
        known = rows_and_plans(book, signs, cap)
        if told is None:
            self.assertEqual(known, {})
            return 0
        self.check_told(told)
        mine = rows_and_plans(told, signs, cap)
        self.assertEqual({row: len(mine[row]) for row in mine}, {row: len(known[row]) for row in known})
        return len(known)

    def test_by_hand(self):
        self.assertGreater(self.check(GRAFTS, 8), 10)
        for book in SIDED:
            self.check(book, 7)
        for book in NO_PLANS:
            self.assertIsNone(without_grafts(book))
        told = without_grafts(SIDED[5])
        self.assertEqual({row: len(plans) for row, plans in rows_and_plans(told, 4).items()}, {
            ("b",) * count + ("a",): 1 for count in range(4)})

    def test_books_without_grafts(self):
        for book in [ROUNDS[0], numbered([knot("S", A, S, S), knot("S", B), knot("T", A)]), numbered([knot("S", A)] * 400)]:
            self.check(book, 5)

    def test_books_made_by_chance(self):
        several = 0
        for seed in range(400):
            book = chance_sided(seed, 1 + seed % 7)
            if choices(book) > 400:
                with self.assertRaises(TooMany):
                    without_grafts(book)
                continue
            try:
                several += self.check(book, 6, 3000) > 2
            except Great:
                continue
        self.assertGreater(several, 80)

    def test_many_plans(self):
        for seed in range(80):
            book = chance_sided(seed, 1 + seed % 7)
            if choices(book) <= 400:
                told = without_grafts(book)
                for signs in range(1, 10, 2):
                    self.assertEqual(0 if told is None else many_of_signs(told, signs), many_of_signs(book, signs))

    def test_names_keep_apart(self):
        # Starts and grafts of one name; holes that nobody fills; names such as the new ones may be.
        names = ["S", "M", "N0", "N1", "G0", "S0", "N" * 24]
        for one, other in itertools.product(names, repeat=2):
            book = (one, (
                ("k0", knot(one, A, takes=(one, False))), ("k1", knot(one, B, ("hole", other), takes=(other, False))),
                ("k2", knot(other, A, ("foot", one))), ("k3", knot(one, C, ("foot", other), takes=("N2", False))),
                ("k4", knot("X", B, ("hole", "N3"), ("foot", "N2"))), ("k5", knot("N2", C)),
            ))
            self.check(book, 5)

    def test_great_trees(self):
        began = time.monotonic()
        # Thirty pieces, eight within one another; as many knots as can be, and each must take something.
        chain = VOID
        for count in range(6):
            chain = knot("X", chain, takes=MUST)
        deep = knot("S", A, *[chain] * 4, takes=MUST)
        wide = knot("S", *[knot("X", *[VOID] * 3, takes=MUST)] * 6, knot("X", VOID, VOID, VOID, A, takes=MUST), takes=MUST)
        full = VOID
        for leaf in [A, VOID, B, VOID]:
            full = knot("X", *[leaf] * 6, full, takes=MUST)
        full = knot("S", *full[3])
        for tree in [deep, wide, full]:
            self.assertIn(len(pieces(tree)), (29, 30))
            self.assertLess(max(len(place) for place, piece in walked(tree)), 8)
        for tree, knots in [(deep, 25), (wide, 8), (full, 3)]:
            own = sum(piece[0] == "sign" for piece in pieces(tree))
            book = numbered([tree, knot("X", C, FOOT), knot("X", C, knot("X", B, FOOT))])
            told = without_grafts(book)
            self.check_told(told)
            # Each knot takes one sign, or two.
            for signs in [own + knots - 1, own + knots, own + knots + 1, own + 2 * knots]:
                self.assertEqual(many_of_signs(told, signs), many_of_signs(book, signs))
            self.assertEqual(many_of_signs(told, own + knots + 1), knots)
        self.assertLess(time.monotonic() - began, 60)

    def test_many_choices(self):
        seven = knot("S", A, *[knot("X", VOID, takes=MAY)] * 6, takes=MAY)
        for trees, many in [
            ([seven] * 3 + [knot("X", B, FOOT, takes=MAY)], 386), ([seven] * 3 + [knot("X", B, FOOT)] * 16, 400),
            ([knot("S", A, takes=MAY)] * 100 + [knot("X", B, FOOT, takes=MAY)] * 100, 400),
        ]:
            book = numbered(trees)
            self.assertEqual(choices(book), many)
            told = without_grafts(book)
            self.check_told(told)
            for signs in range(1, 8):
                self.assertEqual(many_of_signs(told, signs), many_of_signs(book, signs))


if __name__ == "__main__":
    unittest.main()
