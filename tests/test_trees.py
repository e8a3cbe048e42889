"""Points 2, 5 and 6: names, signs, trees, their places, pieces and rows."""

import unittest

from graftsay.errors import NoPlace
from graftsay.trees import is_name, is_sign, is_tree, piece_at, places, put_at, signs_of
from tests.support import (
    A, ALL_SIGNS, B, C, FIGURES, GREAT, SMALL, TREES, VOID, deep_tree, knot, looks_tree, pieces, sign, spoiled, walked,
)

NO_NAMES = ["", "a", "1", "1A", "Aa", "A-", "A ", " A", "A\n", "\nA", "A\t", "A_B", "A" * 25, "A" * 24 + "\n", "?M", "+N"]
NO_SIGNS = ["", "A", "a1", "aB", "a ", " a", "a\n", "\na", "a\t", "a-", "-", "a" * 7, "a" * 6 + "\n", "1"]
NO_TAKES = [
    True, False, 0, 1, "M", "", (), ("M",), ("M", True, True), ["M", True], (True, "M"), ("M", 1), ("M", 0), ("M", None),
    ("M", "True"), (None, True), (("M",), True), [], [("M", True)],
]


class Texts(unittest.TestCase):
    def test_names(self):
        for text in ["A", "Z", "A1", "S0", "NP", "Z" * 24, "Z" + "9" * 23, GREAT[:24], "A0123456789"]:
            self.assertIs(is_name(text), True, text)
        for text in NO_NAMES:
            self.assertIs(is_name(text), False, text)

    def test_signs(self):
        for text in ["a", "z", "top", "void", "sign", "abcdef", "zzzzzz"]:
            self.assertIs(is_sign(text), True, text)
        for text in NO_SIGNS:
            self.assertIs(is_sign(text), False, text)

    def test_names_of_each_sign_and_length(self):
        for letter in ALL_SIGNS:
            self.assertIs(is_name(letter), letter in GREAT, repr(letter))
            self.assertIs(is_name("A" + letter), letter in GREAT + FIGURES, repr(letter))
            self.assertIs(is_name("A" + letter + "B"), letter in GREAT + FIGURES, repr(letter))
            self.assertIs(is_name(letter + "A"), letter in GREAT, repr(letter))
            self.assertIs(is_name("B" * 23 + letter), letter in GREAT + FIGURES, repr(letter))
            self.assertIs(is_name("B" * 24 + letter), False, repr(letter))
        for length in range(40):
            self.assertIs(is_name("Q" * length), 1 <= length <= 24, length)

    def test_signs_of_each_sign_and_length(self):
        for letter in ALL_SIGNS:
            self.assertIs(is_sign(letter), letter in SMALL, repr(letter))
            self.assertIs(is_sign("a" + letter), letter in SMALL, repr(letter))
            self.assertIs(is_sign("a" + letter + "b"), letter in SMALL, repr(letter))
            self.assertIs(is_sign(letter + "a"), letter in SMALL, repr(letter))
            self.assertIs(is_sign("abcde" + letter), letter in SMALL, repr(letter))
            self.assertIs(is_sign("abcdef" + letter), False, repr(letter))
        for length in range(40):
            self.assertIs(is_sign("q" * length), 1 <= length <= 6, length)


class Trees(unittest.TestCase):
    def no_tree(self, thing):
        self.assertIs(is_tree(thing), False, repr(thing))
        self.assertIs(is_tree(knot("S", A, thing)), False, repr(thing))
        self.assertIs(is_tree(knot("S", knot("X", thing, takes=("M", True)), A)), False, repr(thing))

    def test_all_five_kinds(self):
        for tree in TREES:
            self.assertIs(is_tree(tree), True, tree)

    def test_knots(self):
        for takes in [None, ("M", True), ("M", False), ("M" * 24, True)]:
            for many in range(1, 9):
                self.assertIs(is_tree(knot("S", *[A] * many, takes=takes)), True)
            for many in [0, 9, 10]:
                self.no_tree(knot("S", *[A] * many, takes=takes))

    def test_deep_trees(self):
        self.assertIs(is_tree(deep_tree(39)), True)
        self.assertIs(is_tree(deep_tree(39, ("sign", "A"))), False)

    def test_lists_for_tuples(self):
        for thing in [
            ["sign", "a"], ["void"], ["hole", "N"], ["foot", "N"], ["knot", "S", None, (A,)],
            ("knot", "S", None, [A]), ("knot", "S", ["M", True], (A,)), ("knot", "S", None, (["sign", "a"],)),
        ]:
            self.no_tree(thing)

    def test_bad_names_at_each_place_of_names(self):
        for name in NO_NAMES + [None, 0, True, (), ("N",), ["N"]]:
            self.no_tree(("hole", name))
            self.no_tree(("foot", name))
            self.no_tree(("knot", name, None, (A,)))
            self.no_tree(("knot", "S", (name, True), (A,)))
            self.no_tree(("knot", "S", (name, False), (A,)))

    def test_bad_signs(self):
        for text in NO_SIGNS + [None, 0, True, (), ("a",), ["a"]]:
            self.no_tree(("sign", text))

    def test_takes_that_are_none(self):
        for takes in NO_TAKES:
            self.no_tree(("knot", "S", takes, (A,)))

    def test_kids_that_are_none(self):
        for kids in [None, 0, 1, True, "a", A, "sign", (None,), (A, None), (0,), ("a",), (A, [A]), ((A,),), ((),), [], [A]]:
            self.no_tree(("knot", "S", None, kids))

    def test_too_few_and_too_many(self):
        for tree in TREES:
            self.no_tree(tree[:-1])
            self.no_tree(tree + (None,))
            self.no_tree(tree + (tree[-1],))
            self.no_tree((tree,))
            if tree[1:] != VOID:
                self.no_tree(tree[1:])

    def test_words_that_are_none(self):
        for word in ["", "Sign", "sign\n", "voids", "top", "root", "knot ", "KNOT", "leaf", "s", "-", "["]:
            for rest in [(), ("a",), ("N",), ("S", None, (A,))]:
                self.no_tree((word,) + rest)

    def test_first_things_that_are_no_text(self):
        for first in [None, 0, 1, True, False, (), ("sign",), ["sign"], [], ("void",), [["void"]]]:
            for rest in [(), ("a",), ("N",), ("S", None, (A,))]:
                self.no_tree((first,) + rest)

    def test_other_things(self):
        for thing in [None, True, False, 0, 1, -5, 10 ** 59, "", "a", "void", "sign", "[ S a ]", (), [], [()], ((),)]:
            self.no_tree(thing)

    def test_deep_things(self):
        listed, tupled = [], ()
        for count in range(94):
            listed, tupled = [listed], (tupled,)
        self.no_tree(listed)
        self.no_tree(tupled)

    def test_spoiled_trees(self):
        for tree in TREES:
            for thing in spoiled(tree):
                self.assertIs(is_tree(thing), looks_tree(thing), repr(thing))


DOC_TREE = knot("S", A, knot("X", ("hole", "N"), ("foot", "M"), takes=("M", True)), VOID)


class Places(unittest.TestCase):
    def test_places_of_the_documents_tree(self):
        self.assertEqual(places(DOC_TREE), [(), (0,), (1,), (1, 0), (1, 1), (2,)])

    def test_places_of_leaves(self):
        for leaf in [A, VOID, ("hole", "N"), ("foot", "N")]:
            self.assertEqual(places(leaf), [()])

    def test_places_are_sorted_and_lead_to_the_pieces(self):
        for tree in TREES + [deep_tree(39)]:
            told = places(tree)
            self.assertIsInstance(told, list)
            self.assertEqual(told, [place for place, piece in walked(tree)])
            self.assertEqual(told, sorted(told))
            self.assertEqual([piece_at(tree, place) for place in told], pieces(tree))

    def test_places_are_told_anew(self):
        for tree in TREES:
            first, second = places(tree), places(tree)
            self.assertIsNot(first, second)
            first.append("mine")
            first[0] = None
            self.assertEqual(second, [place for place, piece in walked(tree)])
            self.assertEqual(places(tree), second)

    def test_piece_at(self):
        self.assertEqual(piece_at(DOC_TREE, ()), DOC_TREE)
        self.assertEqual(piece_at(DOC_TREE, (0,)), A)
        self.assertEqual(piece_at(DOC_TREE, (1,)), DOC_TREE[3][1])
        self.assertEqual(piece_at(DOC_TREE, (1, 1)), ("foot", "M"))
        self.assertEqual(piece_at(DOC_TREE, (2,)), VOID)

    def test_put_at(self):
        taken = ("M", True)
        self.assertEqual(put_at(DOC_TREE, (), B), B)
        self.assertEqual(put_at(DOC_TREE, (0,), B), knot("S", B, DOC_TREE[3][1], VOID))
        self.assertEqual(
            put_at(DOC_TREE, (1, 0), knot("Y", C)),
            knot("S", A, knot("X", knot("Y", C), ("foot", "M"), takes=taken), VOID))
        self.assertEqual(
            put_at(DOC_TREE, (1, 1), C), knot("S", A, knot("X", ("hole", "N"), C, takes=taken), VOID))
        self.assertEqual(put_at(DOC_TREE, (2,), C), knot("S", A, DOC_TREE[3][1], C))

    def test_put_at_each_place(self):
        other = knot("NEW", sign("new"), takes=("NEW", False))
        for tree in TREES:
            before = repr(tree)
            for place, piece in walked(tree):
                told = put_at(tree, place, other)
                self.assertEqual(piece_at(told, place), other)
                self.assertEqual(put_at(told, place, piece), tree)
                ahead = [spot for spot in places(tree) if spot[:len(place)] != place]
                self.assertEqual([spot for spot in places(told) if spot[:len(place)] != place], ahead)
                for spot in ahead:
                    if place[:len(spot)] != spot:
                        self.assertEqual(piece_at(told, spot), piece_at(tree, spot))
                    else:
                        self.assertEqual(piece_at(told, spot)[:3], piece_at(tree, spot)[:3])
            self.assertEqual(repr(tree), before)

    def refused(self, tree, place):
        before = repr(tree)
        for asked in [lambda: piece_at(tree, place), lambda: put_at(tree, place, B)]:
            with self.assertRaises(NoPlace) as caught:
                asked()
            self.assertEqual(caught.exception.place, place)
        self.assertEqual(repr(tree), before)

    def test_no_such_place(self):
        for place in [
            (3,), (-1,), (-3,), (10 ** 20,), (0, 0), (2, 0), (1, 2), (1, -1), (1, -2), (1, 0, 0), (1, 1, 0), (0, 0, 0, 0),
            (3, 0), (-1, 0), (-2, 0), (7,), (8,),
        ]:
            self.refused(DOC_TREE, place)

    def test_no_place_beside_any_place(self):
        for tree in TREES:
            for place, piece in walked(tree):
                many = len(piece[3]) if piece[0] == "knot" else 0
                self.refused(tree, place + (many,))
                self.refused(tree, place + (-1,))
                self.refused(tree, place + (many, 0))
                self.refused(tree, place + (-1, 0))


class Rows(unittest.TestCase):
    def test_signs_from_left_to_right(self):
        self.assertEqual(signs_of(A), ("a",))
        for leaf in [VOID, ("hole", "N"), ("foot", "N")]:
            self.assertEqual(signs_of(leaf), ())
        self.assertEqual(signs_of(DOC_TREE), ("a",))
        tree = knot("S", knot("X", knot("Y", B), A, ("hole", "N")), VOID, C, knot("Z", sign("top"), ("foot", "M"), A), B)
        self.assertEqual(signs_of(tree), ("b", "a", "c", "top", "a", "b"))

    def test_signs_of_all(self):
        for tree in TREES + [deep_tree(39)]:
            told = signs_of(tree)
            self.assertIsInstance(told, tuple)
            self.assertEqual(told, tuple(piece[1] for piece in pieces(tree) if piece[0] == "sign"))


if __name__ == "__main__":
    unittest.main()
