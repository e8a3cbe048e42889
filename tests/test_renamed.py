"""Points 4, 8, 11, 12, 14, 15, 17, 18, 20 and 23 to 29: what is told of a book is told of it with other names, keys, signs, order."""

import unittest

from graftsay.alike import held_apart
from graftsay.books import is_book, is_graft, name_of, tree_of
from graftsay.building import built, row_of
from graftsay.counts import many_read, plans_read
from graftsay.dresses import dresses_of
from graftsay.endless import are_heights, endless, is_round
from graftsay.entries import entries
from graftsay.held import held
from graftsay.plans import is_plan, is_whole, size_of, takers
from graftsay.prices import best
from graftsay.reading import read, shows_none
from graftsay.sides import one_sided
from graftsay.sizes import many_of, plans_of, rows_to
from graftsay.useful import shows_unused, trimmed, useful
from graftsay.walkers import is_taken, is_walker
from tests.support import BOUNDED, BOUNDED_PLANS, ENDLESS, ENDLESS_PLANS, chance_walker, pieces, spoiled


class Renaming:
    """Other names, keys and signs, one for one."""

    def __init__(self, name, key, sign):
        self.name, self.key, self.sign = name, key, sign

    def tree(self, tree):
        if tree[0] == "sign":
            return ("sign", self.sign(tree[1]))
        if tree[0] in ("hole", "foot"):
            return (tree[0], self.name(tree[1]))
        if tree[0] == "void":
            return tree
        takes = tree[2] and (self.name(tree[2][0]), tree[2][1])
        return ("knot", self.name(tree[1]), takes, tuple(self.tree(kid) for kid in tree[3]))

    def trees(self, book):
        return [(self.key(key), self.tree(tree)) for key, tree in book[1]]

    def plan(self, plan):
        return (self.key(plan[0]), tuple((place, self.plan(put)) for place, put in plan[1]))

    def row(self, row):
        return tuple(self.sign(text) for text in row)

    def walker(self, walker):
        return walker[:3] + (tuple((state, self.sign(text), other) for state, text, other in walker[3]),)

    def entries(self, told):
        return sorted((self.key(entry[0]),) + entry[1:] for entry in told)


LETTERS = "abcdefghijklmnopqrstuvwxyz"


def turned(text):
    """Letters told from the other end: names, keys and signs change their order, too."""
    for letters in [LETTERS, LETTERS.upper()]:
        text = text.translate(str.maketrans(letters, letters[::-1]))
    return text


RENAMINGS = [
    Renaming(turned, turned, turned),
    Renaming(lambda name: "N" + name, lambda key: "k" + key, lambda sign: sign[::-1] + "x"),
    Renaming(lambda name: name + "0", lambda key: key[::-1] if key.isalpha() else key, lambda sign: sign * 2),
]
ORDERS = [lambda rows: rows, lambda rows: rows[::-1], lambda rows: rows[2:] + rows[:2], lambda rows: sorted(rows, key=repr)]
CASES = [
    (book, plans, renaming, (renaming.name(book[0]), tuple(order(renaming.trees(book)))))
    for book, plans in [(BOUNDED, BOUNDED_PLANS), (ENDLESS, ENDLESS_PLANS)]
    for renaming in RENAMINGS
    for order in ORDERS
]


class Renamed(unittest.TestCase):
    def test_books_and_trees(self):
        for book, plans, renaming, other in CASES:
            self.assertIs(is_book(other), True)
            for key, tree in book[1]:
                told = tree_of(other, renaming.key(key))
                self.assertEqual(told, renaming.tree(tree))
                self.assertEqual(is_graft(told), is_graft(tree))
                self.assertEqual(name_of(told), renaming.name(name_of(tree)))

    def test_takers(self):
        for book, plans, renaming, other in CASES:
            order = [key for key, tree in other[1]]
            for key, tree in book[1]:
                for piece in pieces(tree):
                    told = takers(other, renaming.tree(piece))
                    self.assertEqual(sorted(told), sorted(renaming.key(key) for key in takers(book, piece)))
                    self.assertEqual(told, [key for key in order if key in told])

    def test_plans(self):
        for book, plans, renaming, other in CASES:
            for plan in plans:
                told = renaming.plan(plan)
                self.assertIs(is_plan(other, told), True)
                self.assertEqual(is_whole(other, told), is_whole(book, plan))
                self.assertEqual(size_of(told), size_of(plan))

    def test_what_is_built(self):
        for book, plans, renaming, other in CASES:
            for plan in plans[::5]:
                told = renaming.plan(plan)
                self.assertEqual(built(other, told), renaming.tree(built(book, plan)))
                self.assertEqual(row_of(other, told), renaming.row(row_of(book, plan)))

    def test_what_is_none(self):
        odd = [("n", ()), ("p", ()), ("m", ()), ("g", ())]
        for book, plans, renaming, other in CASES:
            for plan in plans[::60]:
                for thing in spoiled(plan, odd):
                    if is_planned(thing):
                        self.assertEqual(is_plan(other, renaming.plan(thing)), is_plan(book, thing), thing)


class RenamedRows(unittest.TestCase):
    def rows(self, book, plans):
        """Rows of some whole plans, and the same turned about."""
        told = [row_of(book, plan) for plan in plans if is_whole(book, plan)]
        told = [row for row in told if len(row) <= 8][::7] + [()]
        return told + [row[::-1] for row in told]

    def test_entries(self):
        for book, plans, renaming, other in CASES:
            for row in self.rows(book, plans):
                told = entries(book, row)
                self.assertEqual(entries(other, renaming.row(row)), renaming.entries(told))
                self.assertIs(
                    shows_none(other, renaming.row(row), renaming.entries(told)), shows_none(book, row, told))
                self.assertEqual(read(other, renaming.row(row))[0], read(book, row)[0])

    def test_plans_read(self):
        for book, plans, renaming, other in CASES:
            for row in self.rows(book, plans):
                self.assertEqual(many_read(other, renaming.row(row)), many_read(book, row))
                told = sorted(renaming.plan(plan) for plan in plans_read(book, row, 1000))
                self.assertEqual(plans_read(other, renaming.row(row), 1000), told)

    def test_best(self):
        for book, plans, renaming, other in CASES:
            prices = {renaming.key(key): 7 * number for number, (key, tree) in enumerate(book[1])}
            for row in self.rows(book, plans):
                for dear in [False, True]:
                    told = best(book, [7 * number for number in range(len(book[1]))], row, dear)
                    same = best(other, [prices[key] for key, tree in other[1]], renaming.row(row), dear)
                    self.assertEqual((same[0], same[2:3]), (told[0], told[2:3]))

    def test_useful(self):
        for book, plans, renaming, other in CASES:
            for top in "SNMKQ":
                mine, others = (top, book[1]), (renaming.name(top), other[1])
                told, same = useful(mine), useful(others)
                for part in range(4):
                    keys = [row if part > 1 else row[0] for row in told[part]]
                    found = [row if part > 1 else row[0] for row in same[part]]
                    self.assertEqual(sorted(found), sorted(renaming.key(key) for key in keys))
                self.assertIs(shows_unused(others, [renaming.key(key) for key in told[2]], same[3]), True)
                if told[1]:
                    self.assertEqual(dict(trimmed(others)[1]), dict(renaming.trees(trimmed(mine))))


class RenamedSizes(unittest.TestCase):
    def test_sizes(self):
        for book, plans, renaming, other in CASES:
            for size in [1, 2, 3, 4, 5, 17]:
                self.assertEqual(many_of(other, size), many_of(book, size))
                if size < 5:
                    told = sorted(renaming.plan(plan) for plan in plans_of(book, size, 1000))
                    self.assertEqual(plans_of(other, size, 1000), told)

    def test_rows(self):
        for book, plans, renaming, other in CASES:
            told = [renaming.row(row) for row in rows_to(book, 8)]
            self.assertEqual(rows_to(other, 8), sorted(told, key=lambda row: (len(row), row)))

    def test_endless(self):
        for book, plans, renaming, other in CASES:
            for top in "SN":
                if top == "N" and book is ENDLESS:
                    continue
                mine, others = (top, book[1]), (renaming.name(top), other[1])
                word, first, second = endless(mine)
                if word == "bounded":
                    told = {renaming.key(key): number for key, number in second}
                    order = [key for key, tree in other[1] if key in told]
                    self.assertEqual(endless(others), (word, first, [(key, told[key]) for key in order]))
                    self.assertIs(are_heights(others, [(key, told[key]) for key in order], first), True)
                else:
                    self.assertEqual(endless(others)[0], word)
                    way, ring = [[(renaming.key(key), place) for key, place in path] for path in (first, second)]
                    self.assertIs(is_round(others, way, ring), True)

    def test_walkers(self):
        for book, plans, renaming, other in CASES:
            for seed in range(5):
                walker = chance_walker(seed, tuple("abcdefg") if seed else tuple("abcdefghij"))
                same = renaming.walker(walker)
                self.assertIs(is_walker(same), True)
                for plan in plans[::11]:
                    row = row_of(book, plan)
                    self.assertIs(is_taken(same, renaming.row(row)), is_taken(walker, row))
                told = {(renaming.key(key), own, marks) for key, own, marks in dresses_of(book, walker, 400)}
                self.assertEqual(set(dresses_of(other, same, 400)), told)
                mine, others = held(book, walker), held(other, same)
                self.assertEqual(sorted(old for key, old in others[1]) if others else None,
                                 sorted(renaming.key(old) for key, old in mine[1]) if mine else None)
                for size in [1, 2, 3, 4]:
                    self.assertEqual(many_of(others[0], size) if others else 0, many_of(mine[0], size) if mine else 0)

    def test_books_apart(self):
        for book, plans, renaming, other in CASES:
            self.assertIs(one_sided(other), one_sided(book))
            less, lesser = [(one[0], tuple(row for row in one[1] if row[0] != key)) for one, key in [
                (book, "t" if book is BOUNDED else "s"), (other, renaming.key("t" if book is BOUNDED else "s"))]]
            told, same = held_apart(book, less, 6), held_apart(other, lesser, 6)
            self.assertEqual((same[0], len(same[1]), same[2]), (told[0], len(told[1]), told[2]))
            self.assertEqual(held_apart(other, (other[0], other[1][::-1]), 6)[0], "alike")


def is_planned(thing):
    """Whether a thing is made like a plan, whichever the book, so that it can be renamed."""
    if not isinstance(thing, tuple) or len(thing) != 2 or not isinstance(thing[0], str) or not isinstance(thing[1], tuple):
        return False
    return all(isinstance(put, tuple) and len(put) == 2 and is_planned(put[1]) for put in thing[1])


if __name__ == "__main__":
    unittest.main()
