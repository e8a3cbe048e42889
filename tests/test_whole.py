"""Points 1, 2, 3 and 4: what the document promises over the whole program."""

import itertools
import unittest

import graftsay.errors
from graftsay.alike import held_apart
from graftsay.booktexts import book_rows, read_book
from graftsay.building import row_of
from graftsay.counts import many_read, plans_read
from graftsay.desk import Desk
from graftsay.endless import are_heights, endless, gone, is_round
from graftsay.entries import entries
from graftsay.errors import GraftError, NoPlan, TooMany, TwoSided
from graftsay.held import held
from graftsay.plans import is_plan, is_whole, size_of
from graftsay.plantexts import plan_text, read_plan
from graftsay.prices import bears, best, price_of
from graftsay.reading import read, shows_none
from graftsay.sides import one_sided, without_grafts
from graftsay.sizes import many_of, plans_of, rows_to
from graftsay.useful import shows_unused, trimmed, useful
from graftsay.walkers import is_taken
from tests.support import A, BOUNDED, DENSE, ENDLESS, ROUNDS, chance_book, chance_walker, knot, walked

SIDED = ("S", (
    ("s", knot("S", A, takes=("M", False))), ("m", knot("X", ("sign", "b"), knot("Y", ("foot", "M"), takes=("M", False)))),
    ("n", knot("X", ("hole", "S"), A, ("foot", "M"))),
))
BOOKS = [BOUNDED, ENDLESS, DENSE, SIDED] + ROUNDS + [chance_book(seed, 1 + seed % 5) for seed in range(60)]
ROWS = [row for length in range(4) for row in itertools.product(["a", "b", "ab"], repeat=length)]


def rows_for(book):
    """Short rows, and some that the book has."""
    try:
        return ROWS + rows_to(book, 6)[:25]
    except TooMany:
        return ROWS


class Promise(unittest.TestCase):
    def test_a_plan_or_a_closed_table(self):
        words = set()
        for book in BOOKS:
            for row in rows_for(book):
                word, told = read(book, row)
                words.add(word)
                many = many_read(book, row)
                self.assertEqual(many > 0, word == "plan")
                self.assertIs(shows_none(book, row, entries(book, row)), word == "none")
                if word == "plan":
                    self.assertIs(is_plan(book, told) and is_whole(book, told), True)
                    self.assertEqual(row_of(book, told), row)
                    self.assertEqual(read_plan(plan_text(told)), told)
                else:
                    self.assertIs(shows_none(book, row, told), True)
                if 0 < many <= 1000:
                    plans = plans_read(book, row, many)
                    self.assertEqual(len(plans), many)
                    self.assertIn(told, plans)
        self.assertEqual(words, {"plan", "none"})

    def test_prices(self):
        for book in BOOKS[::2]:
            prices = [3 * number % 7 for number in range(len(book[1]))]
            for row in rows_for(book)[::3]:
                cheap, dear = best(book, prices, row), best(book, prices, row, dear=True)
                self.assertEqual(cheap[0], read(book, row)[0])
                self.assertEqual(dear[0], cheap[0])
                if cheap[0] == "plan":
                    for told, way in [(cheap, False), (dear, True)]:
                        self.assertEqual(price_of(book, prices, told[1]), told[2])
                        self.assertIs(bears(book, prices, row, told[2], told[3], way), True)
                    self.assertLessEqual(cheap[2], dear[2])

    def test_of_use_or_not(self):
        for book in BOOKS:
            built, come, ends, ways = useful(book)
            self.assertEqual(
                sorted(key for key, tree in book[1]), sorted([key for key, parent, place in come] + ends + ways))
            self.assertIs(shows_unused(book, ends, ways), True)
            if not come:
                for asked in [trimmed, endless]:
                    with self.assertRaises(NoPlan):
                        asked(book)
                self.assertEqual(rows_to(book, 8), [])
                continue
            small = trimmed(book)
            for row in rows_for(book):
                self.assertEqual(many_read(small, row), many_read(book, row))
            for size in [1, 2, 3, 17, 40]:
                self.assertEqual(many_of(small, size), many_of(book, size))

    def test_sizes_and_rows(self):
        for book in BOOKS:
            try:
                rows = rows_to(book, 3)
            except TooMany:
                continue
            due = [row for row in ROWS if many_read(book, row)]
            self.assertEqual([row for row in rows if set(row) <= {"a", "b", "ab"}], sorted(due, key=lambda row: (len(row), row)))
            for size in [1, 2, 3]:
                if many_of(book, size) <= 1000:
                    for plan in plans_of(book, size, 1000):
                        row = row_of(book, plan)
                        self.assertEqual(size_of(plan), size)
                        self.assertIn(plan, plans_read(book, row, 1000) if len(row) < 6 else [plan])

    def test_endless_or_bounded(self):
        words = set()
        for book in BOOKS:
            if not useful(book)[1]:
                continue
            word, first, second = endless(book)
            words.add(word)
            if word == "bounded":
                self.assertIs(are_heights(book, second, first), True)
                if first <= 40:
                    self.assertGreater(many_of(book, first), 0)
                    self.assertEqual([many_of(book, size) for size in range(first + 1, 41)], [0] * (40 - first))
            else:
                self.assertIs(is_round(book, first, second), True)
                self.check_gone(book, first, second)
        self.assertEqual(words, {"bounded", "endless"})

    def check_gone(self, book, way, ring):
        """A plan along a way and a round, and the round gone."""
        plans = {}
        for key, puts in useful(book)[0]:
            plans[key] = (key, tuple((place, plans[other]) for place, other in puts))
        plan = plans[ring[0][0]]
        for key, place in (way + ring)[::-1]:
            puts = dict(plans[key][1])
            puts[place] = plan
            plan = (key, tuple(sorted(puts.items())))
        into, loop = tuple(place for key, place in way), tuple(place for key, place in ring)
        for times in range(4):
            told = gone(plan, into, loop, times)
            self.assertIs(is_plan(book, told) and is_whole(book, told), True)
            self.assertEqual(size_of(told), size_of(plan) + (times - 1) * (size_of(plan) - size_of(gone(plan, into, loop, 0))))

    def test_held_books(self):
        found = 0
        for number, book in enumerate(BOOKS):
            walker = chance_walker(number, ("a", "b", "ab", "c", "d"))
            try:
                told = held(book, walker)
            except TooMany:
                continue
            for row in rows_for(book):
                due = many_read(book, row) if is_taken(walker, row) else 0
                self.assertEqual(many_read(told[0], row) if told else 0, due)
            found += told is not None
        self.assertGreater(found, 15)

    def test_books_without_grafts(self):
        found = 0
        for book in BOOKS:
            try:
                told = without_grafts(book)
            except TwoSided:
                self.assertIs(one_sided(book), False)
                continue
            self.assertIs(one_sided(book), True)
            for row in rows_for(book):
                self.assertEqual(many_read(told, row) if told else 0, many_read(book, row))
            if told:
                found += 1
                self.assertEqual(held_apart(book, told, 4)[0], "alike")
                self.assertEqual(rows_to(told, 5), rows_to(book, 5))
        self.assertGreater(found, 8)

    def test_books_apart(self):
        for one, other in zip(BOOKS, BOOKS[1:]):
            told = held_apart(one, other, 3)
            if told[0] == "alike":
                self.assertEqual(told[1], rows_to(one, 3))
                self.assertEqual(told[1], rows_to(other, 3))
            else:
                word, row, side, plan, table = told
                having, lacking = (one, other) if side == 0 else (other, one)
                self.assertEqual((many_read(lacking, row), many_read(having, row) > 0), (0, True))
                self.assertEqual(row_of(having, plan), row)
                self.assertIs(shows_none(lacking, row, table), True)
            self.assertEqual(held_apart(other, one, 3)[:2], told[:2])

    def test_the_desk_tells_the_same(self):
        for book in BOOKS[:20]:
            desk = Desk()
            rows = book_rows(book)
            for row in ["tree " + row for row in rows[1:]] + rows[:1]:
                self.assertEqual(desk.say(row), "ok")
            self.assertEqual(read_book(desk.say("show").split(" / ")), book)
            for row in rows_for(book)[::5]:
                signs = "".join(" " + sign for sign in row)
                word, told = read(book, row)
                self.assertEqual(desk.say("read" + signs), plan_text(told) if word == "plan" else "none")
                self.assertEqual(desk.say("many" + signs), str(many_read(book, row)))


class Handing(unittest.TestCase):
    """What is handed in is not changed and not kept; what is told is the asker's own."""

    def test_nothing_handed_in_is_changed_or_kept(self):
        walker = (2, 0, (0, 1), ((0, "a", 1), (1, "a", 0), (0, "b", 0)))
        for book in BOOKS[:14]:
            prices = [number % 3 for number in range(len(book[1]))]
            kept = repr((book, prices, walker))
            told = best(book, prices, ("a",))
            for asked, more in [
                (useful, ()), (rows_to, (3,)), (many_of, (book, 4)[1:]), (entries, (("a",),)), (read, (("a",),)), (held_apart, (book, 3)),
                (one_sided, ()),
            ]:
                asked(book, *more)
            try:
                held(book, walker)
                without_grafts(book)
                endless(book)
            except GraftError:
                pass
            self.assertEqual(repr((book, prices, walker)), kept)
            word = repr(told)
            prices[0] = 10 ** 9
            prices.clear()
            self.assertEqual(repr(told), word)

    def test_lists_told_within_one_answer_are_unlike(self):
        def lists(thing):
            if isinstance(thing, list):
                yield thing
            if isinstance(thing, (list, tuple)):
                for part in thing:
                    yield from lists(part)
        for book in [BOUNDED, ENDLESS, SIDED]:
            told = [useful(book), endless(book), endless(book), rows_to(book, 4), rows_to(book, 4), held_apart(book, book, 4),
                    read(book, ("b",)), entries(book, ("b",)), plans_of(book, 2, 1000), plans_read(book, ("a",), 1000)]
            found = [id(one) for one in lists(told)]
            self.assertEqual(len(found), len(set(found)))


class Refusals(unittest.TestCase):
    def test_each_is_straight_under_the_base(self):
        made = [thing for thing in vars(graftsay.errors).values() if isinstance(thing, type)]
        self.assertEqual(GraftError.__bases__, (ValueError,))
        names = sorted(one.__name__ for one in made if one is not GraftError)
        self.assertEqual(names, sorted("NoPlace NoText NoKey Twice NoTree NoRow TooMany TwoSided NoPlan NoLine".split()))
        for one in made:
            if one is not GraftError:
                self.assertEqual(one.__bases__, (GraftError,))

    def test_trees_of_the_books_here(self):
        # The books of these tests are books: what is promised of books is asked here.
        for book in BOOKS:
            self.assertEqual(read_book(book_rows(book)), book)
            self.assertTrue(all(len(list(walked(tree))) <= 60 for key, tree in book[1]))


if __name__ == "__main__":
    unittest.main()
