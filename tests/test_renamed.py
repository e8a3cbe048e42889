"""Points 4, 8, 11 and 12: what is told of a book is told of the same book with other names, keys, signs and order."""

import unittest

from graftsay.books import is_book, is_graft, name_of, tree_of
from graftsay.building import built, row_of
from graftsay.plans import is_plan, is_whole, size_of, takers
from tests.support import BOUNDED, BOUNDED_PLANS, ENDLESS, ENDLESS_PLANS, pieces, spoiled


class Renaming:
    """Other names, keys and signs, one for one."""

    def __init__(self, name, key, sign):
        self.name, self.key, self.sign = name, key, sign

    def tree(self, tree):
        if tree[0] == "sign":
            return ("sign", self.sign(tree[1]))
        if tree[0] in ("hole", "foot"):
            return (tree[0], self.name(tree[1]))
        if tree[0] == "void":
            return tree
        takes = tree[2] and (self.name(tree[2][0]), tree[2][1])
        return ("knot", self.name(tree[1]), takes, tuple(self.tree(kid) for kid in tree[3]))

    def trees(self, book):
        return [(self.key(key), self.tree(tree)) for key, tree in book[1]]

    def plan(self, plan):
        return (self.key(plan[0]), tuple((place, self.plan(put)) for place, put in plan[1]))

    def row(self, row):
        return tuple(self.sign(text) for text in row)


LETTERS = "abcdefghijklmnopqrstuvwxyz"


def turned(text):
    """Letters told from the other end: names, keys and signs change their order, too."""
    for letters in [LETTERS, LETTERS.upper()]:
        text = text.translate(str.maketrans(letters, letters[::-1]))
    return text


RENAMINGS = [
    Renaming(turned, turned, turned),
    Renaming(lambda name: "N" + name, lambda key: "k" + key, lambda sign: sign[::-1] + "x"),
    Renaming(lambda name: name + "0", lambda key: key[::-1] if key.isalpha() else key, lambda sign: sign * 2),
]
ORDERS = [lambda rows: rows, lambda rows: rows[::-1], lambda rows: rows[2:] + rows[:2], lambda rows: sorted(rows, key=repr)]
CASES = [
    (book, plans, renaming, (renaming.name(book[0]), tuple(order(renaming.trees(book)))))
    for book, plans in [(BOUNDED, BOUNDED_PLANS), (ENDLESS, ENDLESS_PLANS)]
    for renaming in RENAMINGS
    for order in ORDERS
]


class Renamed(unittest.TestCase):
    def test_books_and_trees(self):
        for book, plans, renaming, other in CASES:
            self.assertIs(is_book(other), True)
            for key, tree in book[1]:
                told = tree_of(other, renaming.key(key))
                self.assertEqual(told, renaming.tree(tree))
                self.assertEqual(is_graft(told), is_graft(tree))
                self.assertEqual(name_of(told), renaming.name(name_of(tree)))

    def test_takers(self):
        for book, plans, renaming, other in CASES:
            order = [key for key, tree in other[1]]
            for key, tree in book[1]:
                for piece in pieces(tree):
                    told = takers(other, renaming.tree(piece))
                    self.assertEqual(sorted(told), sorted(renaming.key(key) for key in takers(book, piece)))
                    self.assertEqual(told, [key for key in order if key in told])

    def test_plans(self):
        for book, plans, renaming, other in CASES:
            for plan in plans:
                told = renaming.plan(plan)
                self.assertIs(is_plan(other, told), True)
                self.assertEqual(is_whole(other, told), is_whole(book, plan))
                self.assertEqual(size_of(told), size_of(plan))

    def test_what_is_built(self):
        for book, plans, renaming, other in CASES:
            for plan in plans[::5]:
                told = renaming.plan(plan)
                self.assertEqual(built(other, told), renaming.tree(built(book, plan)))
                self.assertEqual(row_of(other, told), renaming.row(row_of(book, plan)))

    def test_what_is_none(self):
        odd = [("n", ()), ("p", ()), ("m", ()), ("g", ())]
        for book, plans, renaming, other in CASES:
            for plan in plans[::60]:
                for thing in spoiled(plan, odd):
                    if is_planned(thing):
                        self.assertEqual(is_plan(other, renaming.plan(thing)), is_plan(book, thing), thing)


def is_planned(thing):
    """Whether a thing is made like a plan, whichever the book, so that it can be renamed."""
    if not isinstance(thing, tuple) or len(thing) != 2 or not isinstance(thing[0], str) or not isinstance(thing[1], tuple):
        return False
    return all(isinstance(put, tuple) and len(put) == 2 and is_planned(put[1]) for put in thing[1])


if __name__ == "__main__":
    unittest.main()
