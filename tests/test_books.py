"""Points 2, 8 and 9: starts, grafts, keys, books, and how books are made."""

import unittest

from graftsay.books import is_book, is_graft, is_key, made_book, name_of, tree_of
from graftsay.errors import GraftError, NoKey, NoTree, Twice
from tests.support import (
    A, ALL_SIGNS, B, BOUNDED, ENDLESS, FIGURES, SMALL, TREES, VOID, book_fault, deep_tree, fault_told, knot, looks_book,
    plain_tree, spoiled, tree_fault,
)

FOOT = ("foot", "M")
START = knot("S", A)
GRAFT = knot("S", A, FOOT)
NO_KEYS = ["", "A", "1", "1a", "aB", "a-", "a ", " a", "a\n", "\na", "a\t", "a_b", "a" * 25, "a" * 24 + "\n", ":", "+n"]
GREAT_WIDE = plain_tree(61)
GREAT_DEEP = deep_tree(12)

# Trees that are no start and no graft, each with the word that tells why: the first that is due.
FAULTY = [
    (A, "knot"), (VOID, "knot"), (("hole", "N"), "knot"), (FOOT, "knot"),
    (knot("S", FOOT, FOOT), "feet"), (knot("S", A, FOOT, FOOT), "feet"), (knot("S", A, FOOT, ("foot", "N")), "feet"),
    (knot("S", A, knot("X", FOOT), knot("Y", FOOT)), "feet"), (knot("S", *[FOOT] * 8), "feet"),
    (knot("S", VOID), "sign"), (knot("S", FOOT), "sign"), (knot("S", ("hole", "N"), FOOT, VOID), "sign"),
    (knot("S", knot("X", VOID), takes=("M", True)), "sign"),
    (GREAT_WIDE, "great"), (GREAT_DEEP, "great"), (deep_tree(11, GRAFT), "great"), (knot("S", A, deep_tree(11)), "great"),
    (knot("S", GREAT_WIDE, FOOT), "great"), (knot("S", GREAT_WIDE, FOOT, FOOT), "feet"),
    (deep_tree(12, VOID), "sign"), (deep_tree(12, knot("S", FOOT, FOOT)), "feet"), (knot("S", deep_tree(12, VOID)), "sign"),
    (knot("S", *[knot("X", *[VOID] * 8)] * 8), "sign"), (knot("S", *[knot("X", *[FOOT] * 8)] * 8), "feet"),
]
# Starts and grafts at the edges, each with whether it is a graft, and its name.
SOUND = [
    (START, False, "S"), (GRAFT, True, "M"), (knot("M", A, FOOT), True, "M"), (knot("S", A, ("foot", "S")), True, "S"),
    (plain_tree(60), False, "S"), (plain_tree(59), False, "S"), (deep_tree(11), False, "S"), (deep_tree(10), False, "S"),
    (knot("S", FOOT, A), True, "M"), (knot("S", A, knot("X", knot("Y", FOOT), takes=("N", True)), B), True, "M"),
    (deep_tree(10, knot("X", FOOT, A)), True, "M"), (knot("S", A, deep_tree(10)), False, "S"),
    (knot("S", ("hole", "N"), knot("X", B), takes=("M", False)), False, "S"), (knot("T", *[A] * 8), False, "T"),
    (knot("X", A, ("foot", "LAST")), True, "LAST"), (knot("X", knot("Y", ("foot", "Y2"), A), ("hole", "H")), True, "Y2"),
]


def keyed(many):
    return tuple(("k" + str(number), START) for number in range(many))


class Keys(unittest.TestCase):
    def test_keys(self):
        for text in ["a", "z", "top", "k1", "a0", "z" * 24, "z" + "9" * 23, "abc0123456789"]:
            self.assertIs(is_key(text), True, text)
        for text in NO_KEYS:
            self.assertIs(is_key(text), False, text)

    def test_keys_of_each_sign_and_length(self):
        for letter in ALL_SIGNS:
            self.assertIs(is_key(letter), letter in SMALL, repr(letter))
            self.assertIs(is_key("a" + letter), letter in SMALL + FIGURES, repr(letter))
            self.assertIs(is_key("a" + letter + "b"), letter in SMALL + FIGURES, repr(letter))
            self.assertIs(is_key(letter + "a"), letter in SMALL, repr(letter))
            self.assertIs(is_key("b" * 23 + letter), letter in SMALL + FIGURES, repr(letter))
            self.assertIs(is_key("b" * 24 + letter), False, repr(letter))
        for length in range(40):
            self.assertIs(is_key("q" * length), 1 <= length <= 24, length)


class Books(unittest.TestCase):
    def no_book(self, thing):
        self.assertIs(is_book(thing), False, repr(thing)[:200])

    def test_books(self):
        for book in [BOUNDED, ENDLESS, ("S", (("a", START),)), ("Z" * 24, (("a", GRAFT), ("a1", START), ("top", START)))]:
            self.assertIs(is_book(book), True)

    def test_how_many_trees(self):
        self.assertIs(is_book(("S", keyed(1))), True)
        self.assertIs(is_book(("S", keyed(399))), True)
        self.assertIs(is_book(("S", keyed(400))), True)
        self.no_book(("S", keyed(401)))
        self.no_book(("S", ()))

    def test_tops(self):
        for top in ["", "s", "1", "S\n", " S", "S" * 25, None, 0, True, ("S",), ["S"], ()]:
            self.no_book((top, (("a", START),)))

    def test_keys(self):
        for key in NO_KEYS + [None, 0, 1, True, ("a",), ["a"], (), []]:
            self.no_book(("S", ((key, START),)))
            self.no_book(("S", (("a", START), (key, GRAFT))))
        self.no_book(("S", (("a", START), ("a", START))))
        self.no_book(("S", (("a", START), ("b", GRAFT), ("a", GRAFT))))
        self.no_book(("S", keyed(399) + (("k0", START),)))

    def test_trees(self):
        for tree, word in FAULTY:
            self.no_book(("S", (("a", tree),)))
            self.no_book(("S", (("a", START), ("b", tree))))
        for tree, graft, name in SOUND:
            self.assertIs(is_book(("S", (("a", tree),))), True, tree)
            self.assertIs(is_book(("S", (("a", START), ("b", tree)))), True, tree)
        for thing in [None, 0, True, "a", "[ S a ]", (), [], ["knot", "S", None, (A,)], ("knot", "S", None, [A]),
                      ("knot", "s", None, (A,)), ("knot", "S", ("M", 1), (A,)), ("knot", "S", None, (A, ("sign", "A")))]:
            self.no_book(("S", (("a", thing),)))

    def test_lists_for_tuples(self):
        self.no_book(["S", (("a", START),)])
        self.no_book(("S", [("a", START)]))
        self.no_book(("S", (["a", START],)))
        self.no_book(("S", (("a", list(START)),)))

    def test_too_few_and_too_many(self):
        for thing in [
            (), ("S",), ("S", (("a", START),), None), ("S", (("a", START),), ("S", (("a", START),))), ("S", (("a",),)),
            ("S", (("a", START, None),)), ("S", ((),)), ("S", ("a", START)), ("S", START), ((("a", START),), "S"),
            ("S", ((START, "a"),)), (("S", (("a", START),)),), ("S", (("a", START), None)), ("S", None), ("S", 0), ("S", "ab"),
            ("S", ("ab",)), ("S", (("ab"),)), ("S", True),
        ]:
            self.no_book(thing)

    def test_other_things(self):
        for thing in [None, True, False, 0, 1, 10 ** 59, "", "S", "top S", [], [()], START, GRAFT, TREES]:
            self.no_book(thing)

    def test_deep_things(self):
        listed, tupled = [], ()
        for count in range(96):
            listed, tupled = [listed], (tupled,)
        for thing in [listed, tupled, ("S", tupled), ("S", (("a", tupled),)), ("S", (("a", deep_tree(45)),))]:
            self.no_book(thing)

    def test_spoiled_books(self):
        book = ("S", (("a", START), ("b", knot("X", ("hole", "N"), FOOT, B, takes=("M", True))), ("top", knot("N", A, VOID))))
        for thing in spoiled(book):
            self.assertIs(is_book(thing), looks_book(thing), repr(thing))


class StartsAndGrafts(unittest.TestCase):
    def test_the_edges_are_told_right_here(self):
        for tree, word in FAULTY:
            self.assertEqual(tree_fault(tree), word)
        for tree, graft, name in SOUND:
            self.assertIsNone(tree_fault(tree))

    def test_is_graft_and_name(self):
        for tree, graft, name in SOUND:
            self.assertIs(is_graft(tree), graft, tree)
            self.assertEqual(name_of(tree), name, tree)

    def test_tree_of(self):
        for book in [BOUNDED, ENDLESS, ("S", keyed(399) + (("last", GRAFT),))]:
            for key, tree in book[1]:
                self.assertEqual(tree_of(book, key), tree)


class Made(unittest.TestCase):
    def refused(self, trees, kind, **fields):
        kept = list(trees)
        with self.assertRaises(GraftError) as caught:
            made_book("S", trees)
        self.assertIs(type(caught.exception), kind)
        for field, worth in fields.items():
            self.assertEqual(getattr(caught.exception, field), worth)
        self.assertEqual(trees, kept)

    def test_made(self):
        for book in [BOUNDED, ENDLESS, ("S", keyed(1)), ("T9", keyed(400))]:
            top, trees = book
            listed = list(trees)
            told = made_book(top, listed)
            self.assertEqual(told, book)
            self.assertEqual(repr(told), repr(book))
            self.assertIs(is_book(told), True)
            self.assertEqual(listed, list(trees))
            listed[0] = ("zzz", VOID)
            listed.append(None)
            self.assertEqual(told, book)
            listed.clear()
            self.assertEqual(told, book)
            self.assertEqual(made_book(top, list(trees)), told)

    def test_edges_made(self):
        for tree, graft, name in SOUND:
            self.assertEqual(made_book("S", [("a", tree)]), ("S", (("a", tree),)))

    def test_how_many(self):
        self.refused([], NoKey, number=0)
        self.refused(list(keyed(401)), NoKey, number=400)
        self.refused(list(keyed(402)), NoKey, number=400)
        self.refused([("", A)] * 401, NoKey, number=400)

    def test_keys(self):
        for key in NO_KEYS:
            self.refused([(key, START)], NoKey, number=0)
            self.refused([("a", START), ("b", GRAFT), (key, START), ("", START)], NoKey, number=2)
        self.refused(list(keyed(399)) + [("A", START)], NoKey, number=399)

    def test_twice(self):
        self.refused([("a", START), ("a", START)], Twice, key="a")
        self.refused([("a", START), ("b", START), ("c", GRAFT), ("b", GRAFT), ("a", START)], Twice, key="b")
        self.refused(list(keyed(399)) + [("k7", START)], Twice, key="k7")

    def test_no_tree(self):
        for tree, word in FAULTY:
            self.refused([("a", tree)], NoTree, key="a", word=word)
            self.refused([("x", START), ("b2", tree), ("c", A)], NoTree, key="b2", word=word)

    def test_tree_by_tree(self):
        self.refused([("", A), ("", A)], NoKey, number=0)
        self.refused([("a", START), ("a", A)], Twice, key="a")
        self.refused([("a", A), ("a", START)], NoTree, key="a", word="knot")
        self.refused([("a", A), ("", START)], NoTree, key="a", word="knot")
        self.refused([("a", START), ("b", VOID), ("", START)], NoTree, key="b", word="knot")
        self.refused([("a", START), ("", VOID), ("a", START)], NoKey, number=1)
        self.refused([("a", START), ("b", GREAT_DEEP), ("b", START)], NoTree, key="b", word="great")
        self.refused([("a", START), ("a", START), ("b", A)], Twice, key="a")
        self.refused([("A", START), ("A", START)], NoKey, number=0)
        self.refused([("a", START), ("B", START), ("B", START)], NoKey, number=1)

    def test_all_lists_of_three(self):
        rows = [("a", START), ("b", GRAFT), ("a", A), ("b", knot("S", VOID)), ("A", START), ("c", GREAT_WIDE), ("", VOID)]
        for first in rows:
            for second in rows:
                for third in rows:
                    trees = [first, second, third]
                    fault = book_fault(trees)
                    if fault is None:
                        self.assertEqual(made_book("S", trees), ("S", tuple(trees)))
                        continue
                    with self.assertRaises(GraftError) as caught:
                        made_book("S", trees)
                    self.assertEqual(fault_told(caught.exception), fault)


if __name__ == "__main__":
    unittest.main()
