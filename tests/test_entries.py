"""Points 2, 4 and 14: entries."""

import time
import unittest

from graftsay.entries import entries
from tests.support import (
    A, B, BOUNDED, C, DENSE, ENDLESS, ROUNDS, VOID, Great, chance_book, goals_of, knot, looks_entry, rows_and_plans, ruled,
    sign,
)

FOOT = ("foot", "M")


def row_of_letters(text):
    return tuple(text)


def ends_at(book, row, key, place, done):
    """The ends of the entries with that key, place and done."""
    return [entry[3] for entry in entries(book, row) if entry[:3] == (key, place, done)]


def spans(*pairs):
    return [(begin, -1, -1, end) for begin, end in pairs]


def one(tree, *others):
    """A book of a tree, s, and others, o0, o1 and so on."""
    return ("S", (("s", tree),) + tuple(("o" + str(number), other) for number, other in enumerate(others)))


class EachRule(unittest.TestCase):
    def check(self, book, text, key, place, done, expected):
        self.assertEqual(ends_at(book, row_of_letters(text), key, place, done), expected)
        self.assertEqual(entries(book, row_of_letters(text)), ruled(book, row_of_letters(text)))

    def test_sign(self):
        self.check(one(knot("S", A)), "aba", "s", (0,), True, spans((0, 1), (2, 3)))
        self.check(one(knot("S", A)), "bbb", "s", (0,), True, [])
        self.check(one(knot("S", A)), "", "s", (0,), True, [])
        self.check(one(knot("S", A)), "a", "s", (0,), False, [])

    def test_void(self):
        self.check(one(knot("S", VOID, A)), "bb", "s", (0,), True, spans((0, 0), (1, 1), (2, 2)))
        self.check(one(knot("S", VOID, A)), "", "s", (0,), True, spans((0, 0)))
        self.check(one(knot("S", VOID, A)), "a", "s", (0,), False, [])

    def test_foot(self):
        book = one(knot("S", A, FOOT))
        self.check(book, "b", "s", (1,), True, [(0, 0, 0, 0), (0, 0, 1, 1), (1, 1, 1, 1)])
        self.check(book, "", "s", (1,), True, [(0, 0, 0, 0)])
        self.check(book, "bb", "s", (1,), True, [(j, j, k, k) for j in range(3) for k in range(j, 3)])
        self.check(book, "b", "s", (1,), False, [])

    def test_hole(self):
        book = one(knot("S", ("hole", "N"), A), knot("N", B), knot("N", B, B), knot("N", C, FOOT), knot("NN", C))
        self.check(book, "bba", "s", (0,), True, spans((0, 1), (0, 2), (1, 2)))
        self.check(book, "bba", "s", (), True, spans((0, 3), (1, 3)))
        self.check(book, "ccc", "s", (0,), True, [])
        self.check(book, "bba", "s", (0,), False, [])

    def test_hole_is_filled_by_wholes_that_are_done(self):
        book = one(knot("S", ("hole", "N"), A), knot("N", B, takes=("M", True)), knot("X", C, FOOT))
        self.check(book, "cb", "o0", (), False, spans((1, 2)))
        self.check(book, "cb", "o0", (), True, spans((0, 2)))
        self.check(book, "cb", "s", (0,), True, spans((0, 2)))

    def test_knot_of_one_kid(self):
        book = one(knot("S", knot("X", A)))
        for place in [(), (0,)]:
            for done in [False, True]:
                self.check(book, "aba", "s", place, done, spans((0, 1), (2, 3)))

    def test_knot_of_several_kids(self):
        book = one(knot("S", A, VOID, B, knot("X", VOID), A))
        self.check(book, "abaaba", "s", (), False, spans((0, 3), (3, 6)))
        self.check(book, "ab", "s", (), False, [])
        wide = one(knot("S", *[("hole", "N")] * 7, A), knot("N", A), knot("N", A, A))
        self.check(wide, "a" * 9, "s", (), False, spans((0, 8), (0, 9), (1, 9)))

    def test_knot_of_kids_of_which_one_has_the_foot(self):
        first, middle, last = knot("S", FOOT, A), knot("S", A, knot("X", FOOT), B), knot("S", A, VOID, FOOT)
        self.check(one(first), "aba", "s", (), False, [(0, 0, 0, 1), (0, 0, 2, 3), (1, 1, 2, 3), (2, 2, 2, 3)])
        self.check(one(middle), "abb", "s", (), False, [(0, 1, 1, 2), (0, 1, 2, 3)])
        self.check(one(last), "bab", "s", (), False, [(1, 2, 2, 2), (1, 2, 3, 3)])
        self.check(one(middle), "abb", "s", (1,), False, [(j, j, k, k) for j in range(4) for k in range(j, 4)])
        self.check(one(middle), "abb", "s", (0,), True, spans((0, 1)))

    def test_knot_that_takes_nothing(self):
        book = one(knot("S", A), knot("X", B, FOOT))
        self.check(book, "ba", "s", (), False, spans((1, 2)))
        self.check(book, "ba", "s", (), True, spans((1, 2)))

    def test_knot_that_may_take(self):
        book = one(knot("S", A, takes=("M", False)), knot("X", B, FOOT))
        self.check(book, "ba", "s", (), False, spans((1, 2)))
        self.check(book, "ba", "s", (), True, spans((0, 2), (1, 2)))

    def test_knot_that_must_take(self):
        book = one(knot("S", A, takes=("M", True)), knot("X", B, FOOT))
        self.check(book, "ba", "s", (), False, spans((1, 2)))
        self.check(book, "ba", "s", (), True, spans((0, 2)))
        self.check(book, "a", "s", (), True, [])

    def test_graft_round_a_knot(self):
        book = one(knot("S", A, takes=("M", True)), knot("X", B, FOOT, C), knot("X", FOOT, C, C))
        self.check(book, "bacc", "s", (), True, spans((0, 3), (1, 4)))
        self.check(book, "bacc", "o0", (), True, [(0, 1, 2, 3), (0, 1, 3, 4)])
        self.check(book, "bacc", "o1", (), True, [(0, 0, 2, 4), (1, 1, 2, 4), (2, 2, 2, 4)])

    def test_graft_at_a_knot_with_the_foot(self):
        graft = knot("X", A, knot("Y", FOOT, takes=("K", True)))
        book = one(knot("S", B, takes=("M", True)), graft, knot("Z", B, ("foot", "K"), C))
        self.check(book, "abbc", "o0", (1,), True, [(1, 2, 3, 4), (2, 3, 3, 4)])
        self.check(book, "abbc", "o0", (), True, [(0, 2, 3, 4)])
        self.check(book, "abbc", "s", (), True, spans((0, 4)))

    def test_grafts_in_grafts(self):
        book = one(knot("S", A, takes=("M", False)), knot("X", B, knot("Y", FOOT, takes=("M", False)), takes=("M", False)))
        self.check(book, "bba", "s", (), True, spans((0, 3), (1, 3), (2, 3)))
        self.check(book, "bbb", "o0", (), True, [
            (0, 1, 1, 1), (0, 1, 2, 2), (0, 1, 3, 3), (0, 2, 2, 2), (0, 2, 3, 3), (0, 3, 3, 3), (1, 2, 2, 2), (1, 2, 3, 3),
            (1, 3, 3, 3), (2, 3, 3, 3),
        ])

    def test_names_that_nobody_bears(self):
        tree = knot("S", A, knot("X", B, takes=("N", False)), takes=("N", True))
        self.check(one(tree), "ab", "s", (1,), True, spans((1, 2)))
        self.check(one(tree), "ab", "s", (), False, spans((0, 2)))
        self.check(one(tree), "ab", "s", (), True, [])
        self.check(one(knot("S", A, ("hole", "N"))), "aa", "s", (1,), True, [])
        self.check(one(knot("S", A, ("hole", "N"))), "aa", "s", (), False, [])
        # Starts of that name are not put at knots, nor grafts in holes.
        self.check(one(knot("S", A, takes=("N", True)), knot("N", B)), "ab", "s", (), True, [])
        self.check(one(knot("S", A, ("hole", "N")), knot("N", B, ("foot", "N"))), "ab", "s", (1,), True, [])


class AllEntries(unittest.TestCase):
    def test_by_hand(self):
        book = ("S", (("s", knot("S", A, takes=("M", False))), ("m", knot("X", B, FOOT))))
        self.assertEqual(entries(book, ("b", "a")), [
            ("m", (), False, (0, 1, 1, 1)),
            ("m", (), False, (0, 1, 2, 2)),
            ("m", (), True, (0, 1, 1, 1)),
            ("m", (), True, (0, 1, 2, 2)),
            ("m", (0,), True, (0, -1, -1, 1)),
            ("m", (1,), True, (0, 0, 0, 0)),
            ("m", (1,), True, (0, 0, 1, 1)),
            ("m", (1,), True, (0, 0, 2, 2)),
            ("m", (1,), True, (1, 1, 1, 1)),
            ("m", (1,), True, (1, 1, 2, 2)),
            ("m", (1,), True, (2, 2, 2, 2)),
            ("s", (), False, (1, -1, -1, 2)),
            ("s", (), True, (0, -1, -1, 2)),
            ("s", (), True, (1, -1, -1, 2)),
            ("s", (0,), True, (1, -1, -1, 2)),
        ])

    def check(self, book, row):
        told = entries(book, row)
        self.assertIs(type(told), list)
        self.assertEqual(told, ruled(book, row), (book, row))
        # Truths equal numbers, their texts don't.
        self.assertEqual(repr(told), repr(sorted(set(told))))
        for entry in told:
            self.assertTrue(looks_entry(book, row, entry), entry)

    def test_books_made_by_chance(self):
        for seed in range(250):
            book = chance_book(seed, 1 + seed % 6)
            rows = [(), ("a",), ("ab", "a"), ("b", "a", "b"), ("a",) * 4]
            try:
                rows += sorted(rows_and_plans(book, 5))[-3:]
            except Great:
                pass
            for row in rows:
                self.check(book, row)

    def test_trees_put_in_the_same_ones_again(self):
        for book in ROUNDS + [ENDLESS]:
            for text in ["", "a", "ab", "aab", "abb", "aaa", "aaaa", "abab", "aabbc", "ababab"]:
                self.check(book, row_of_letters(text))

    def test_rows_of_all_lengths(self):
        for length in range(13):
            self.check(ENDLESS, row_of_letters("aabbccdaabcd"[:length]))
            self.check(BOUNDED, row_of_letters("facbfcccaefg"[:length]))
        self.check(ENDLESS, row_of_letters("aaabbbccddcd"))
        self.check(ENDLESS, row_of_letters("aabbccdaabcd"))
        self.check(ROUNDS[0], row_of_letters("a" * 12))

    def test_signs_names_and_keys_that_begin_one_another(self):
        book = ("S", (
            ("k", knot("S", sign("a"), ("hole", "SS"), takes=("M", False))),
            ("k1", knot("SS", sign("ab"), knot("S", sign("aba"), takes=("MM", True)))),
            ("k10", knot("S", sign("ab"), FOOT)),
            ("k2", knot("SS", sign("a"), ("foot", "MM"))),
            ("ka", knot("SSS", sign("aba"))),
        ))
        for row in [("a",), ("ab",), ("aba",), ("ab", "a"), ("a", "ab", "a", "aba"), ("ab", "a", "ab", "a", "aba"), ("abab",)]:
            self.check(book, row)
        goal = ("k", (), True, (0, -1, -1, 5))
        self.assertIn(goal, entries(book, ("ab", "a", "ab", "a", "aba")))
        self.assertNotIn(goal, entries(book, ("a", "ab", "ab", "a", "aba")))

    def test_great_trees(self):
        tree = A
        for count in range(10):
            tree = knot("X", VOID, tree, takes=("M", False))
        deep = ("S", (("s", knot("S", tree)), ("m", knot("X", B, FOOT))))
        self.check(deep, row_of_letters("bba"))
        wide = ("S", (("s", knot("S", *[knot("X", A, *[VOID] * 6) for count in range(7)])),))
        self.check(wide, row_of_letters("a" * 7))
        self.assertEqual(ends_at(wide, ("a",) * 9, "s", (), True), spans((0, 7), (1, 8), (2, 9)))

    def test_goals_come_where_plans_build_the_row(self):
        for seed in range(0, 120, 3):
            book = chance_book(seed)
            for row, plans in rows_and_plans(book, 5).items():
                come = [goal[0] for goal in goals_of(book, row) if goal in entries(book, row)]
                self.assertEqual(sorted(come), sorted({plan[0] for plan in plans}))


class Answers(unittest.TestCase):
    def test_lists_are_new(self):
        for row in [(), ("a", "b", "c"), ("a", "a", "b", "b", "c", "d", "c")]:
            first, second = entries(ENDLESS, row), entries(ENDLESS, row)
            self.assertIsNot(first, second)
            kept = list(second)
            self.assertEqual(first, kept)
            first.append("mine")
            first[0] = "mine"
            self.assertEqual(second, kept)
            second.clear()
            self.assertEqual(entries(ENDLESS, row), kept)

    def test_asked_in_any_order_the_same_is_told(self):
        asked = [(book, row) for book in [ENDLESS, BOUNDED] + ROUNDS for row in [("a",), ("a", "b"), ()]]
        first = [repr(entries(book, row)) for book, row in asked]
        again = [repr(entries(book, row)) for book, row in reversed(asked)]
        self.assertEqual(first, again[::-1])

    def test_nothing_is_changed(self):
        row = ("a", "b", "c")
        before = repr((ENDLESS, row))
        entries(ENDLESS, row)
        self.assertEqual(repr((ENDLESS, row)), before)

    def test_long_rows_within_seconds(self):
        began = time.monotonic()
        told = entries(DENSE, ("a",) * 12)
        self.assertIn(("s", (), True, (0, -1, -1, 12)), told)
        self.assertEqual(told, sorted(set(told)))
        # By g, put in as often as need be, s builds any number of signs.
        self.assertEqual(
            [entry[3] for entry in told if entry[:3] == ("s", (), True)],
            spans(*[(begin, end) for begin in range(13) for end in range(begin + 1, 13)]))
        many = ("S", tuple(("k" + str(number), tree) for number, tree in enumerate(
            [tree for key, tree in BOUNDED[1] + ENDLESS[1]] * 20)))
        told = entries(many, tuple("aabbccaabbcd"))
        self.assertEqual(len(told), 20 * len(entries((many[0], many[1][:14]), tuple("aabbccaabbcd"))))
        self.assertLess(time.monotonic() - began, 40)


if __name__ == "__main__":
    unittest.main()
