"""Points 2, 4, 15 and 16: rows read, and what shows that there is no plan."""

import itertools
import time
import unittest

from graftsay.building import row_of
from graftsay.entries import entries
from graftsay.plans import is_plan, is_whole
from graftsay.reading import read, shows_none
from tests.support import (
    A, B, BOUNDED, BOUNDED_PLANS, C, DENSE, ENDLESS, ODD_THINGS, ROUNDS, VOID, chance_book, closed_list, goals_of, knot,
    looks_entry, pieces, rows_and_plans, ruled, shows, spoiled, walked,
)

FOOT = ("foot", "M")
BOOK = ("S", (
    ("s", knot("S", A, knot("X", B, takes=("M", False)), VOID)),
    ("t", knot("S", ("hole", "N"), C, takes=("M", True))),
    ("n", knot("N", B)),
    ("m", knot("X", A, FOOT, B)),
    ("l", knot("X", knot("Y", FOOT, takes=("M", False)), C)),
))


def rows_of(signs, most):
    """All rows of at most so many of these signs."""
    return [row for length in range(most + 1) for row in itertools.product(signs, repeat=length)]


def signs_in(book):
    return sorted({piece[1] for key, tree in book[1] for piece in pieces(tree) if piece[0] == "sign"})


def all_forms(book, row):
    """All entries of a book and a row, whether they come or not."""
    bounds = range(len(row) + 1)
    told = []
    for key, tree in book[1]:
        for place, piece in walked(tree):
            for ends in list(itertools.product(bounds, repeat=4)) + [(i, -1, -1, l) for i in bounds for l in bounds]:
                for done in [False, True]:
                    if looks_entry(book, row, (key, place, done, ends)):
                        told.append((key, place, done, ends))
    return told


class Read(unittest.TestCase):
    def check(self, book, row, plans):
        told = read(book, row)
        self.assertIs(type(told), tuple)
        self.assertEqual(len(told), 2)
        if plans:
            self.assertEqual(told[0], "plan")
            self.assertIn(told[1], plans)
            self.assertIs(is_plan(book, told[1]), True)
            self.assertIs(is_whole(book, told[1]), True)
            self.assertEqual(row_of(book, told[1]), row)
        else:
            self.assertEqual(told[0], "none")
            self.assertIs(shows_none(book, row, told[1]), True)
            self.assertTrue(shows(book, row, told[1]))

    def test_all_rows_of_a_book(self):
        for book, most in [(BOOK, 4), (ENDLESS, 4), (("X", BOOK[1]), 3)] + [(book, 6) for book in ROUNDS]:
            known = rows_and_plans(book, most)
            for row in rows_of(signs_in(book), most):
                self.check(book, row, known.get(row, []))

    def test_all_rows_of_a_book_whose_plans_end(self):
        known = {}
        for plan in BOUNDED_PLANS:
            if is_whole(BOUNDED, plan):
                known.setdefault(row_of(BOUNDED, plan), []).append(plan)
        for row, plans in known.items():
            if len(row) <= 12:
                self.check(BOUNDED, row, plans)
                self.check(BOUNDED, row[1:], known.get(row[1:], []))
                self.check(BOUNDED, row[::-1], known.get(row[::-1], []))

    def test_books_made_by_chance(self):
        for seed in range(200):
            book = chance_book(seed, 1 + seed % 6)
            known = rows_and_plans(book, 5)
            for row in sorted(known)[::3] + [("a", "b"), ("ab", "a", "b"), ("a", "a", "a")]:
                self.check(book, row, known.get(row, []))

    def test_the_row_of_no_sign(self):
        for book in [BOOK, BOUNDED, ENDLESS, DENSE] + ROUNDS:
            self.check(book, (), [])

    def test_a_tree_put_in_itself_again_and_again(self):
        self.assertEqual(read(ROUNDS[1], ("a",)), ("plan", ("s", ())))
        plan = ("m", ())
        for many in range(1, 12):
            told = read(ROUNDS[1], ("a",) + ("b",) * many)
            self.assertEqual(told[0], "plan")
            self.assertEqual(row_of(ROUNDS[1], told[1]), ("a",) + ("b",) * many)
            self.assertEqual(told[1], ("s", (((), plan),)))
            plan = ("m", (((), plan),))

    def test_rows_of_twelve_signs(self):
        for row in [tuple("aaabbbccddcd"), tuple("aabbccdaabcd"), tuple("abcabcabcabc")]:
            self.check(ENDLESS, row, [])
        nested = ("g", (((1,), ("g", ())),))
        row = row_of(ENDLESS, ("s", (((1,), nested),)))
        self.check(ENDLESS, row, [("s", (((1,), nested),))])
        began = time.monotonic()
        told = read(DENSE, ("a",) * 12)
        self.assertIs(is_plan(DENSE, told[1]), True)
        self.assertEqual(row_of(DENSE, told[1]), ("a",) * 12)
        told = read(DENSE, ("a",) * 11 + ("b",))
        self.assertEqual(told[0], "none")
        self.assertIs(shows_none(DENSE, ("a",) * 11 + ("b",), told[1]), True)
        self.assertLess(time.monotonic() - began, 40)

    def test_deep_trees_put_in_one_another(self):
        tree = ("hole", "S")
        for count in range(10):
            tree = knot("X", VOID, VOID, VOID, VOID, VOID, tree)
        book = ("S", (("s", knot("S", A, tree)), ("t", knot("S", B))))
        told = read(book, ("a",) * 11 + ("b",))
        self.assertEqual(told[0], "plan")
        self.assertEqual(row_of(book, told[1]), ("a",) * 11 + ("b",))

    def test_lists_are_new_and_nothing_is_changed(self):
        before = repr(BOOK)
        for row in [("c",), ("a", "b"), ()]:
            first, second = read(BOOK, row), read(BOOK, row)
            self.assertEqual(repr(first), repr(second))
            if first[0] == "none":
                self.assertIsNot(first[1], second[1])
                first[1].clear()
                self.assertEqual(read(BOOK, row), second)
        self.assertEqual(repr(BOOK), before)


class ShowsNone(unittest.TestCase):
    def check(self, book, row, thing, expected=None):
        before = repr(thing)
        told = shows_none(book, row, thing)
        self.assertIs(type(told), bool)
        self.assertIs(told, shows(book, row, thing), (row, before[:300]))
        if expected is not None:
            self.assertIs(told, expected, (row, before[:300]))
        self.assertEqual(repr(thing), before)

    def test_all_entries(self):
        for book, most in [(BOOK, 3), (ENDLESS, 3), (ROUNDS[0], 4), (ROUNDS[2], 4), (ROUNDS[3], 4)]:
            known = rows_and_plans(book, most)
            for row in rows_of(signs_in(book)[:3], most):
                self.check(book, row, ruled(book, row), row not in known)
                self.check(book, row, ruled(book, row)[::-1], row not in known)

    def test_other_tops_and_rows(self):
        # Entries of a row with a plan show nothing of it, but where another name is the top.
        row = ("a", "b")
        self.check(BOOK, row, ruled(BOOK, row), False)
        self.check(("T", BOOK[1]), row, ruled(BOOK, row), True)
        self.check(("M", BOOK[1]), row, ruled(BOOK, row), True)
        # Those of a longer row are beyond the bounds of a shorter one, those of a shorter one lack some.
        self.check(BOOK, ("c",), ruled(BOOK, ("c", "c")), False)
        self.check(BOOK, ("c", "c"), ruled(BOOK, ("c",)), False)
        self.check(BOOK, ("c",), ruled(ENDLESS, ("c",)), False)

    def test_more_entries_than_come(self):
        row = ("a", "c")
        for book in [BOOK, ROUNDS[0], ROUNDS[4]]:
            goals = goals_of(book, row)
            for more in all_forms(book, row):
                listed = set(ruled(book, row)) | {more}
                self.check(book, row, sorted(listed))
                closed = closed_list(book, row, listed)
                self.check(book, row, closed, not any(goal in closed for goal in goals))

    def test_wholes_without_signs_among_them(self):
        # A list may have starts and grafts that build nothing at all; what comes of them has to be there, too.
        for book in [BOOK, ENDLESS]:
            for row in [(), ("c",), ("a", "a")]:
                for key, tree in book[1]:
                    ends = (0, 0, 0, 0) if key in ("m", "l", "g", "h") else (0, -1, -1, 0)
                    listed = set(ruled(book, row)) | {(key, (), True, ends)}
                    self.check(book, row, sorted(listed))
                    self.check(book, row, closed_list(book, row, listed))

    def test_all_forms(self):
        for book, row in [(BOOK, ()), (BOOK, ("c",)), (ENDLESS, ("b",))]:
            forms = all_forms(book, row)
            self.check(book, row, forms, False)
            self.check(("Q", book[1]), row, forms, True)
            # Without the goals alone, what leads to them is still there.
            self.check(book, row, [entry for entry in forms if entry not in goals_of(book, row)], False)

    def test_one_left_out(self):
        for book, row in [(BOOK, ("b", "c")), (ENDLESS, ("a", "b")), (ROUNDS[3], ("a", "a")), (ROUNDS[2], ("b", "a"))]:
            told = ruled(book, row)
            self.check(book, row, told, True)
            for at in range(len(told)):
                # An entry that comes is missed, whichever it is.
                self.check(book, row, told[:at] + told[at + 1:], False)

    def test_one_twice(self):
        row = ("b", "c")
        told = ruled(BOOK, row)
        for at in range(len(told)):
            self.check(BOOK, row, told + [told[at]], False)
            self.check(BOOK, row, told[:at] + [told[at]] + told[at:], False)

    def test_one_bent(self):
        row = ("b", "c")
        told = ruled(BOOK, row)
        for at, entry in enumerate(told):
            for bent in bent_entries(entry, len(row)):
                # In its place, and beside it.
                self.check(BOOK, row, told[:at] + [bent] + told[at + 1:], False)
                self.check(BOOK, row, told + [bent])
                if not looks_entry(BOOK, row, bent):
                    self.check(BOOK, row, told + [bent], False)

    def test_one_spoiled(self):
        row = ("c",)
        told = ruled(BOOK, row)
        for at in range(0, len(told), 3):
            for thing in spoiled(told[at]):
                self.check(BOOK, row, told[:at] + [thing] + told[at + 1:])
                self.check(BOOK, row, told + [thing])

    def test_a_goal_among_them(self):
        row = ("c",)
        told = ruled(BOOK, row)
        for goal in goals_of(BOOK, row):
            self.check(BOOK, row, told + [goal], False)
            self.check(BOOK, row, closed_list(BOOK, row, set(told) | {goal}), False)
        # The same bounds not done, or of a start of another name, are no goal.
        self.check(BOOK, row, closed_list(BOOK, row, set(told) | {("n", (), True, (0, -1, -1, 1))}), True)
        self.check(BOOK, row, closed_list(BOOK, row, set(told) | {("t", (), False, (0, -1, -1, 1))}), True)
        self.check(BOOK, row, closed_list(BOOK, row, set(told) | {("s", (), False, (0, -1, -1, 1))}), False)

    def test_things_of_other_kinds(self):
        row = ("c",)
        told = ruled(BOOK, row)
        deep = []
        for count in range(98):
            deep = [deep]
        for thing in ODD_THINGS + [tuple(told), {"a": told}.get("b"), [told], (told,), [tuple(told)], "none", deep, [deep]]:
            self.check(BOOK, row, thing, False)
        self.check(BOOK, row, [list(entry) for entry in told], False)
        self.check(BOOK, row, [entry[:3] + (list(entry[3]),) for entry in told], False)
        self.check(BOOK, row, [(entry[0], list(entry[1])) + entry[2:] for entry in told], False)
        self.check(BOOK, row, [("none", told)], False)

    def test_books_made_by_chance(self):
        for seed in range(60):
            book = chance_book(seed, 1 + seed % 6)
            for row in [(), ("b",), ("a", "ab"), ("b", "a", "a")]:
                told = entries(book, row)
                self.check(book, row, told)
                if told:
                    self.check(book, row, told[seed % len(told):])
                    self.check(book, row, told[:-1], False)


def bent_entries(entry, length):
    """Entries with one part bent."""
    key, place, done, ends = entry
    keys = ["s", "t", "n", "m", "l", "x", "", "S", key + "0", key + "\n", None, 0, (key,), [key]]
    told = [(other, place, done, ends) for other in keys if other != key]
    others = [place + (0,), place + (7,), (9,), (-1,), (10 ** 40,), place[:-1] + (True,), place[:-1] + (False,), list(place)]
    told += [(key, other, done, ends) for other in others + [None, 0, "0", place + ("0",), place + (None,), ((),)]
             if repr(other) != repr(place)]
    told += [(key, place, other, ends) for other in [not done, 0, 1, None, "True", (), 2, (True,)]]
    for at in range(4):
        for other in [True, False, None, "0", -1, -2, length, length + 1, 10 ** 50, (0,), [], ends[at] + 1, ends[at] - 1]:
            if repr(other) != repr(ends[at]):
                told.append((key, place, done, ends[:at] + (other,) + ends[at + 1:]))
    told += [(key, place, done, ends[::-1])] if ends[::-1] != ends else []
    told += [(key, place, done, other) for other in [
        list(ends), ends[:3], ends + (0,), (ends[0], ends[3]), (), None, (ends[0], 0, 0, ends[3] + 1), (2, -1, -1, 1),
        (0, 1, 0, 2), (1, 0, 1, 2), (0, 0, 2, 1), (-1, -1, -1, 0), (0, -1, 0, 1), (0, 0, -1, 1), (0, -2, -2, 1),
    ] if other != ends]
    return told + [entry[:3], entry + (0,), list(entry), (entry,), entry[::-1], (place, key, done, ends)]


if __name__ == "__main__":
    unittest.main()
