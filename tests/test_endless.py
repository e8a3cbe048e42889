"""Points 2, 3, 4, 24 and 25: rounds gone any number of times; whether a book's plans end."""

import itertools
import time
import unittest

from graftsay.building import row_of
from graftsay.endless import are_heights, endless, gone, is_round
from graftsay.errors import GraftError, NoPlan
from graftsay.plans import is_plan, is_whole, size_of
from tests.support import (
    A, B, BOUNDED, BOUNDED_PLANS, C, DENSE, ENDLESS, ENDLESS_PLANS, ODD_THINGS, ROUNDS, Great, chain_of, chance_book,
    keys_in, knot, numbered, one_key, plans_of_signs, put_keys, sign, walked,
)

FOOT = ("foot", "M")
MAY = ("M", False)
# A round that lies among trees that don't end, or that no whole plan has: f, by its hole; x and y, which nothing leads
# to; m, which only f takes.
IDLE = ("S", (
    ("s", knot("S", A, ("hole", "N"))),
    ("f", knot("S", B, ("hole", "NOBODY"), ("hole", "S"), takes=MAY)),
    ("x", knot("X", A, ("hole", "Y"))),
    ("y", knot("Y", A, ("hole", "X"))),
    ("y2", knot("Y", A)),
    ("n", knot("N", C, takes=("K", False))),
    ("m", knot("M", A, FOOT, takes=MAY)),
    ("k", knot("K", A, ("foot", "K"), ("hole", "T"))),
    ("k2", knot("K", A, ("foot", "K"), ("hole", "T"), takes=("K", True))),
    ("t", knot("T", B)),
))
# The same where m can be put.
BUSY = ("S", IDLE[1] + (("s2", knot("S", A, ("hole", "N"), takes=("M", True))),))
NO_PLANS = [ROUNDS[3], ROUNDS[4], ("Q", ENDLESS[1]), ("M", ENDLESS[1]), ("S", (("m", knot("S", A, ("foot", "S"))),)),
            ("NOBODY", IDLE[1])]


def ring_of(many):
    """A book of starts, each with a hole for the next one, the last one for the first one, which may do without."""
    trees = [knot("N" + str(number) if number else "S", A, ("hole", "N" + str(number + 1))) for number in range(many - 1)]
    last = knot("N" + str(many - 1) if many > 1 else "S", A, ("hole", "S"))
    return numbered(trees + [last, knot("S", A)])


def put_places(book, key):
    """The tuples of a place of a tree and the keys of what can be put there."""
    return [
        (place, put_keys(book, piece)) for place, piece in walked(dict(book[1])[key])
        if piece[0] == "hole" or piece[0] == "knot" and piece[2]
    ]


def ending_in(book):
    """The keys of the trees that end, found by going through all again and again."""
    known = set()
    while True:
        more = {
            key for key, tree in book[1] if all(
                set(put_keys(book, piece)) & known for place, piece in walked(tree)
                if piece[0] == "hole" or piece[0] == "knot" and piece[2] and piece[2][1])
        }
        if more == known:
            return known
        known = more


def used_in(book):
    """The keys of the trees of use, in the book's order."""
    ending = ending_in(book)
    known = set()
    while True:
        more = set(put_keys(book, ("hole", book[0]))) & ending
        for key in known:
            for place, keys in put_places(book, key):
                more |= set(keys) & ending
        if more == known:
            return [key for key, tree in book[1] if key in known]
        known = more


def leads_round(book, way, ring):
    """Whether two things are a way and a round by point 25."""
    for thing in [way, ring]:
        if type(thing) is not list:
            return False
        for step in thing:
            if type(step) is not tuple or len(step) != 2 or type(step[0]) is not str or type(step[1]) is not tuple:
                return False
            if not all(type(number) is int for number in step[1]) or step[0] not in ending_in(book):
                return False
            if step[1] not in [place for place, keys in put_places(book, step[0])]:
                return False
    if not ring:
        return False
    path = way + ring
    if path[0][0] not in put_keys(book, ("hole", book[0])):
        return False
    for (key, place), (other, where) in zip(path, path[1:] + ring[:1]):
        if other not in dict(put_places(book, key))[place]:
            return False
    return True


def height_list(book):
    """The heights of a book by point 25, found from below; None where there is a round or no whole plan."""
    used = used_in(book)
    known = {}
    for count in range(len(used)):
        for key in used:
            below = [[other for other in keys if other in used] for place, keys in put_places(book, key)]
            if all(other in known for keys in below for other in keys):
                known[key] = 1 + sum(max([known[other] for other in keys], default=0) for keys in below)
    if not used or len(known) < len(used):
        return None
    return [(key, known[key]) for key in used]


def greatest_in(book, heights):
    return max(dict(heights)[key] for key in put_keys(book, ("hole", book[0])) if key in dict(heights))


def plan_there(plan, way):
    for place in way:
        plan = dict(plan[1])[place]
    return plan


def ways_into(plan):
    """All ways into a plan."""
    yield ()
    for place, put in plan[1]:
        for way in ways_into(put):
            yield (place,) + way


class Gone(unittest.TestCase):
    def check(self, book, plan, way, ring):
        before = repr((plan, way, ring))
        told = [gone(plan, way, ring, times) for times in range(5)]
        self.assertEqual(told[1], plan)
        self.assertEqual(plan_there(told[0], way), plan_there(plan, way + ring))
        lengths = []
        for times, one in enumerate(told):
            self.assertIs(is_plan(book, one), True)
            self.assertEqual(is_whole(book, one), is_whole(book, plan))
            lengths.append(len(row_of(book, one)))
            # Elsewhere it is the plan itself: with the same one at way they are alike.
            there = plan_there(one, way)
            self.assertEqual(self.marked(one, way), self.marked(plan, way))
            if times:
                self.assertEqual(plan_there(there, ring), plan_there(told[times - 1], way))
                self.assertEqual(self.marked(there, ring), self.marked(plan_there(plan, way), ring))
        self.assertEqual(repr(gone(plan, way, ring, 3)), repr(told[3]))
        more = {later - earlier for earlier, later in zip(lengths, lengths[1:])}
        self.assertEqual(len(more), 1)
        self.assertGreaterEqual(min(more), 1)
        self.assertEqual(repr((plan, way, ring)), before)

    def marked(self, plan, way):
        """A plan with a mark in the place of the one at a way."""
        if not way:
            return "mark"
        return (plan[0], tuple((place, self.marked(put, way[1:]) if place == way[0] else put) for place, put in plan[1]))

    def test_all_rounds_in_plans(self):
        kinds = set()
        for book, plans in [(ENDLESS, ENDLESS_PLANS[::7]), (ROUNDS[0], plans_of_signs(ROUNDS[0], 7)),
                            (ROUNDS[1], plans_of_signs(ROUNDS[1], 5)), (ROUNDS[2], plans_of_signs(ROUNDS[2], 8)),
                            (DENSE, plans_of_signs(DENSE, 4)[::3])]:
            for plan in plans:
                for way in ways_into(plan):
                    there = plan_there(plan, way)
                    for ring in ways_into(there):
                        if ring and plan_there(there, ring)[0] == there[0]:
                            self.check(book, plan, way, ring)
                            kinds.add((min(len(way), 2), min(len(ring), 2)))
        self.assertEqual(kinds, set(itertools.product([0, 1, 2], [1, 2])))

    def test_by_hand(self):
        last = ("t", ())
        once = ("s", (((0,), last), ((1,), last)))
        plan = ("s", (((0,), once), ((1,), last)))
        self.assertEqual(gone(plan, (), ((0,),), 0), once)
        self.assertEqual(gone(plan, (), ((0,),), 1), plan)
        self.assertEqual(gone(plan, (), ((0,),), 2), ("s", (((0,), plan), ((1,), last))))
        self.assertEqual(gone(plan, (), ((0,),), 3), ("s", (((0,), ("s", (((0,), plan), ((1,), last)))), ((1,), last))))
        inner = ("s", (((0,), last), ((1,), plan)))
        self.assertEqual(gone(inner, ((1,),), ((0,),), 0), ("s", (((0,), last), ((1,), once))))
        self.assertEqual(gone(inner, ((1,),), ((0,),), 2), ("s", (((0,), last), ((1,), ("s", (((0,), plan), ((1,), last)))))))
        self.assertEqual(gone(inner, (), ((1,), (0,)), 0), once)
        self.assertEqual(gone(inner, (), ((1,), (0,)), 2), ("s", (((0,), last), ((1,), ("s", (((0,), inner), ((1,), last)))))))

    def test_twenty_times(self):
        plan = ("s", (((0,), ("t", ())), ((1,), ("t", ()))))
        plan = ("s", (((0,), plan), ((1,), ("t", ()))))
        for times in range(18):
            told = gone(plan, (), ((0,),), times)
            self.assertEqual(size_of(told), 3 + 2 * times)
            self.assertIs(is_plan(ROUNDS[0], told), True)


class Endless(unittest.TestCase):
    def refused(self, book):
        with self.assertRaises(NoPlan) as caught:
            endless(book)
        self.assertIs(type(caught.exception), NoPlan)
        self.assertIsInstance(caught.exception, GraftError)
        self.assertIsInstance(caught.exception, ValueError)

    def check(self, book):
        before = repr(book)
        heights = height_list(book)
        if not used_in(book):
            self.refused(book)
            return "none"
        told = endless(book)
        self.assertIs(type(told), tuple)
        self.assertEqual(len(told), 3)
        if told[0] == "bounded":
            self.assertEqual(repr(told), repr(("bounded", greatest_in(book, heights), heights)))
            self.assertIs(are_heights(book, told[2], told[1]), True)
        else:
            self.assertEqual(told[0], "endless")
            self.assertIsNone(heights)
            self.assertTrue(leads_round(book, told[1], told[2]), (book, told))
            self.assertIs(is_round(book, told[1], told[2]), True)
        self.assertEqual(repr(endless(book)), repr(told))
        self.assertEqual(repr(book), before)
        return told[0]

    def test_by_hand(self):
        self.assertEqual(endless(ROUNDS[1]), ("endless", [("s", ())], [("m", ())]))
        self.assertEqual(endless(numbered([knot("S", A)])), ("bounded", 1, [("k0", 1)]))
        for book in [ENDLESS, DENSE, ROUNDS[0], ROUNDS[1], ROUNDS[2], BUSY]:
            self.assertEqual(self.check(book), "endless")
        for book in NO_PLANS:
            self.refused(book)

    def test_a_book_whose_plans_end(self):
        for top in "SNPT":
            book = (top, BOUNDED[1])
            self.assertEqual(self.check(book), "bounded")
            sizes = [len(keys_in(plan)) for plan in BOUNDED_PLANS if is_whole(book, plan)]
            self.assertEqual(endless(book)[1], max(sizes))
        for top in "KMLRQ":
            self.refused((top, BOUNDED[1]))

    def test_heights_are_sizes(self):
        # The height of a tree is the greatest size of a plan of it.
        told = dict(endless(BOUNDED)[2])
        for key in told:
            self.assertEqual(told[key], max(len(keys_in(plan)) for plan in BOUNDED_PLANS if plan[0] == key))

    def test_rounds_among_trees_of_no_use(self):
        for book in [("S", IDLE[1][:7] + IDLE[1][7:8] + IDLE[1][9:]), ("X", IDLE[1]), ("Y", IDLE[1]), IDLE, BUSY]:
            self.check(book)
        idle = ("S", tuple(row for row in IDLE[1] if row[0] != "k2"))
        self.assertEqual(endless(idle), ("bounded", 4, [("s", 4), ("n", 3), ("k", 2), ("t", 1)]))
        # A round of trees of use to which a tree that doesn't end leads as well.
        self.assertEqual(self.check(IDLE), "endless")
        self.assertEqual(endless(IDLE)[1:], ([("s", (1,)), ("n", ())], [("k2", ())]))
        self.assertEqual(self.check(("X", IDLE[1])), "endless")

    def test_rings_of_starts(self):
        for many in list(range(1, 40)) + [399]:
            book = ring_of(many)
            for trees in [book[1], book[1][::-1], book[1][many // 2:] + book[1][:many // 2]]:
                self.assertEqual(endless(("S", trees))[0], "endless")
                word, way, ring = endless(("S", trees))
                self.assertEqual(len(ring), many)
                self.assertIs(is_round(("S", trees), way, ring), True)
            if many < 12:
                self.check(book)
            self.assertEqual(endless(("S", book[1][:many - 1] + (("end", knot("N" + str(many - 1) if many > 1 else "S", A)),)))[:2],
                             ("bounded", many))

    def test_rounds_far_in(self):
        chain = [knot("N" + str(number) if number else "S", A, ("hole", "N" + str(number + 1))) for number in range(30)]
        ring = [knot("N30", A, takes=MAY), knot("X", A, FOOT, ("hole", "T")), knot("T", A, knot("Y", B, takes=MAY)), knot("T", B)]
        book = numbered(chain + ring)
        self.assertEqual(self.check(book), "endless")
        word, way, ring = endless(book)
        self.assertEqual(len(way), 31 + (ring[0][0] == "k32"))
        self.assertEqual(sorted(key for key, place in ring), ["k31", "k32"])

    def test_grafts_put_in_themselves(self):
        for place, graft in [
            ((), knot("X", A, FOOT, takes=MAY)), ((1,), knot("X", A, knot("Y", FOOT, takes=MAY))),
            ((0,), knot("X", knot("Y", A, takes=MAY), FOOT)),
        ]:
            book = numbered([knot("S", A, takes=MAY), graft])
            self.assertEqual(endless(book), ("endless", [("k0", ())], [("k1", place)]))
            self.check(book)
        # Where it has to be, it doesn't end.
        self.assertEqual(endless(numbered([knot("S", A, takes=MAY), knot("X", A, FOOT, takes=("M", True))])),
                         ("bounded", 1, [("k0", 1)]))
        self.refused(numbered([knot("S", A, takes=("M", True)), knot("X", A, FOOT, takes=("M", True))]))

    def test_names_of_starts_and_grafts_keep_apart(self):
        book = numbered([knot("S", A, takes=("S", False)), knot("X", A, ("foot", "S")), knot("T", A, ("hole", "S"))])
        self.assertEqual(endless(book), ("bounded", 2, [("k0", 2), ("k1", 1)]))

    def test_books_made_by_chance(self):
        found = {}
        for seed in range(400):
            book = chance_book(seed, 1 + seed % 9, ("S", "M", "SM", "N", "K", "L", "Q"))
            told = self.check(book)
            found[told] = found.get(told, 0) + 1
            if told == "bounded":
                try:
                    plans = plans_of_signs(book, endless(book)[1] + 3, 3000, one_key)
                except Great:
                    continue
                self.assertEqual(endless(book)[1], max(len(keys_in(plan)) for plan in plans))
            self.check(("M", book[1]))
        self.assertGreater(min(found["bounded"], found["endless"]), 15)

    def test_great_books(self):
        began = time.monotonic()
        for many in [400, 399]:
            book = chain_of(many)
            for trees in [book[1], book[1][::-1]]:
                word, size, heights = endless(("S", trees))
                self.assertEqual((word, size), ("bounded", many))
                self.assertEqual(sorted(number for key, number in heights), list(range(1, many + 1)))
                self.assertIs(are_heights(("S", trees), heights, size), True)
        wide = [
            knot("N" + str(number) if number else "S", A, *[
                knot("X", *[("hole", "N" + str(number + 1))] * 7) for count in range(6)]) for number in range(399)]
        book = numbered(wide + [knot("N399", A)])
        for trees in [book[1], book[1][::-1]]:
            word, size, heights = endless(("S", trees))
            self.assertEqual(size, sum(42 ** number for number in range(400)))
            self.assertIs(are_heights(("S", trees), heights, size), True)
            self.assertIs(are_heights(("S", trees), heights, size + 1), False)
        every = numbered([knot("S", A, ("hole", "S"), takes=MAY)] * 199 + [knot("S", A)] + [knot("X", A, FOOT, takes=MAY)] * 200)
        self.assertEqual(endless(every)[0], "endless")
        self.assertLess(time.monotonic() - began, 60)

    def test_lists_are_new(self):
        for book in [BOUNDED, ENDLESS, ROUNDS[0]]:
            first, second = endless(book), endless(book)
            kept = repr(second)
            parts = [part for told in [first, second] for part in told if type(part) is list]
            for one, other in itertools.combinations(parts, 2):
                self.assertIsNot(one, other)
            for part in first:
                if type(part) is list:
                    part.append("mine")
                    part[0] = "mine"
            self.assertEqual(repr(second), kept)
            self.assertEqual(repr(endless(book)), kept)


class IsRound(unittest.TestCase):
    def check(self, book, way, ring, expected=None):
        before = repr((book, way, ring))
        told = is_round(book, way, ring)
        self.assertIs(type(told), bool)
        self.assertIs(told, leads_round(book, way, ring), (way, ring))
        if expected is not None:
            self.assertIs(told, expected, (way, ring))
        self.assertEqual(repr((book, way, ring)), before)

    PAPERS = [
        (ENDLESS, [("s", (1,))], [("g", (1,))]),
        (ENDLESS, [("s", (1,))], [("h", ())]),
        (ENDLESS, [("s", (1,)), ("g", (1,)), ("h", ())], [("g", (1,)), ("h", ())]),
        (ENDLESS, [], [("s", (1,)), ("h", (0,))]),
        (ENDLESS, [("s", (1,)), ("h", (0,))], [("s", (1,)), ("h", (0,))]),
        (ENDLESS, [("s", (1,))], [("h", (0,)), ("s", (1,))]),
        (ROUNDS[0], [], [("s", (0,))]),
        (ROUNDS[0], [("s", (0,)), ("s", (1,))], [("s", (1,)), ("s", (0,))]),
        (ROUNDS[2], [], [("s", (1,)), ("t", (0,))]),
        (ROUNDS[2], [("s", (1,)), ("t", (0,)), ("s", (1,)), ("u", ())], [("m", (0,))]),
        (BUSY, [("s2", ())], [("m", ())]),
        (BUSY, [("s", (1,)), ("n", ())], [("k2", ())]),
        (("X", IDLE[1]), [], [("x", (1,)), ("y", (1,))]),
        (("Y", IDLE[1]), [("y", (1,))], [("x", (1,)), ("y", (1,))]),
        (ring_of(7), [], [("k" + str(number), (1,)) for number in range(7)]),
        (ring_of(7), [("k0", (1,)), ("k1", (1,))], [("k" + str((number + 2) % 7), (1,)) for number in range(7)]),
    ]

    def test_whoever_made_them(self):
        for book, way, ring in self.PAPERS:
            self.check(book, way, ring, True)
            # Gone twice, and from the next tuple on, it is a round, too.
            self.check(book, way, ring + ring, True)
            self.check(book, way + ring[:1], ring[1:] + ring[:1], True)
            self.check(book, way + ring, ring, True)

    def test_all_short_paths(self):
        for book in [ENDLESS, ROUNDS[2], ("T", ROUNDS[2][1]), ("S", (("s", knot("S", A, ("hole", "S"), takes=MAY)), (
                "t", knot("S", B)), ("m", knot("X", A, FOOT, ("hole", "Q")))))]:
            steps = [(key, place) for key, tree in book[1] for place, piece in walked(tree)]
            for way, ring in itertools.product([0, 1, 2], [1, 2]):
                if way + ring <= 3 and len(steps) ** (way + ring) < 20000:
                    for path in itertools.product(steps, repeat=way + ring):
                        self.check(book, list(path[:way]), list(path[way:]))

    def test_a_step_left_out(self):
        for book, way, ring in self.PAPERS:
            for at in range(len(way)):
                self.check(book, way[:at] + way[at + 1:], ring)
            for at in range(len(ring)):
                self.check(book, way, ring[:at] + ring[at + 1:])
            self.check(book, way, [], False)
            self.check(book, ring, way)
        self.check(ENDLESS, [], [("g", (1,))], False)
        self.check(ENDLESS, [("s", (1,))], [("s", (1,))], False)
        self.check(ENDLESS, [], [], False)
        self.check(("X", IDLE[1]), [], [("x", (1,))], False)
        self.check(("X", IDLE[1]), [("x", (1,))], [("x", (1,)), ("y", (1,))], False)

    def test_a_step_bent(self):
        keys = ["s", "g", "h", "m", "n", "k0", "k9", "f", "x", "", "S", None, 0, True, ("s",), ["s"]]
        places = [(), (0,), (1,), (2,), (0, 0), (1, 0), (9,), (-1,), (True,), (False,), [], [1], None, 0, 1, "1", (None,), ("0",)]
        for book, way, ring in self.PAPERS:
            path = way + ring
            for at, (key, place) in enumerate(path):
                others = [(other, place) for other in keys] + [(key, other) for other in places]
                others += [[key, place], (key,), (key, place, place), (key, list(place)), (place, key), None, key, place, ()]
                for other in others:
                    bent = path[:at] + [other] + path[at + 1:]
                    self.check(book, bent[:len(way)], bent[len(way):])
        self.check(ENDLESS, [("s", (True,))], [("g", (1,))], False)
        self.check(ENDLESS, [("s", [1])], [("g", (1,))], False)
        self.check(ENDLESS, [["s", (1,)]], [("g", (1,))], False)
        self.check(ROUNDS[0], [], [("s", (False,))], False)

    def test_things_of_other_kinds(self):
        deep = []
        for count in range(98):
            deep = [deep]
        for book, way, ring in self.PAPERS[:4]:
            for thing in ODD_THINGS + [tuple(ring), deep, [ring], "ring", [[]], [None]]:
                self.check(book, thing, ring)
                self.check(book, way, thing, False)
            self.check(book, tuple(way), ring, False)
            self.check(book, way, tuple(ring), False)
            self.check(book, None, None, False)
        self.check(ROUNDS[0], (), [("s", (0,))], False)
        self.check(ROUNDS[0], None, [("s", (0,))], False)

    def test_trees_that_do_not_end(self):
        self.check(BUSY, [("f", ())], [("m", ())], False)
        self.check(BUSY, [], [("f", (2,))], False)
        self.check(ROUNDS[3], [], [("s", (0,))], False)
        self.check(ROUNDS[4], [], [("s", ()), ("m", (2,))], False)
        # In these the round is one, but no start named as the top leads to it.
        self.check(("S", IDLE[1]), [], [("x", (1,)), ("y", (1,))], False)
        self.check(IDLE, [], [("m", ())], False)
        self.check(IDLE, [("s", ())], [("m", ())], False)

    def test_books_whose_plans_end(self):
        for book in [BOUNDED, chain_of(3)]:
            steps = [(key, place) for key, tree in book[1] for place, piece in walked(tree)]
            for way in [[]] + [[step] for step in steps]:
                for step in steps:
                    self.check(book, way, [step], False)

    def test_great_papers(self):
        began = time.monotonic()
        book = ring_of(399)
        ring = [("k" + str(number), (1,)) for number in range(399)]
        self.assertIs(is_round(book, ring * 7, ring * 7), True)
        self.assertIs(is_round(book, ring * 7 + ring[:1], ring * 7), False)
        self.assertIs(is_round(book, ring * 7, ring * 7 + ring[:-1]), False)
        self.assertLess(time.monotonic() - began, 20)


class AreHeights(unittest.TestCase):
    BOOKS = [
        BOUNDED, ("N", BOUNDED[1]), chain_of(1), chain_of(4), ("S", tuple(row for row in IDLE[1] if row[0] != "k2")),
        numbered([knot("S", A, ("hole", "T"), ("hole", "T"), takes=MAY), knot("T", A), knot("T", A, ("hole", "U")), knot("U", B),
                  knot("X", A, FOOT), knot("X", sign("x"), FOOT, ("hole", "U")), knot("V", A)]),
    ]

    def check(self, book, thing, size, expected=None):
        before = repr((book, thing, size))
        told = are_heights(book, thing, size)
        self.assertIs(type(told), bool)
        heights = height_list(book)
        own = heights is not None and repr((thing, size)) == repr((heights, greatest_in(book, heights)))
        self.assertIs(told, own, (thing, size))
        if expected is not None:
            self.assertIs(told, expected, (thing, size))
        self.assertEqual(repr((book, thing, size)), before)

    def test_those_told(self):
        for book in self.BOOKS:
            heights = height_list(book)
            self.check(book, heights, greatest_in(book, heights), True)
            self.assertEqual(endless(book), ("bounded", greatest_in(book, heights), heights))

    def test_the_size(self):
        for book in self.BOOKS:
            heights = height_list(book)
            size = greatest_in(book, heights)
            for other in [size - 1, size + 1, 0, -1, -size, 10 ** 59, True, False, None, str(size), (size,), [size], [], ()]:
                self.check(book, heights, other, False)
        self.check(chain_of(1), [("k0", 1)], 1, True)
        self.check(chain_of(1), [("k0", 1)], True, False)
        self.check(chain_of(1), [("k0", True)], 1, False)

    def test_a_row_bent(self):
        for book in self.BOOKS:
            heights = height_list(book)
            size = greatest_in(book, heights)
            for at, (key, number) in enumerate(heights):
                others = [(key, other) for other in [
                    number - 1, number + 1, 0, -1, -number, None, str(number), (number,), [number], 10 ** 59, True, False]]
                others += [(other, number) for other in ["u", "k9", "", "S", None, 0, (key,), [key], heights[at - 1][0]]]
                others += [[key, number], (key,), (number, key), (key, number, number), key, number, None, (), (key, number, None)]
                for other in others:
                    bent = heights[:at] + [other] + heights[at + 1:]
                    self.check(book, bent, size, bent == heights and None)
                    if isinstance(other, tuple) and len(other) == 2 and isinstance(other[1], int):
                        self.check(book, bent, other[1])
                self.check(book, heights[:at] + heights[at + 1:], size, False)
                self.check(book, heights[:at] + [(key, number)] + heights[at:], size, False)
                for other in range(at):
                    turned = list(heights)
                    turned[at], turned[other] = turned[other], turned[at]
                    self.check(book, turned, size, False)

    def test_trees_of_no_use(self):
        self.check(BOUNDED, height_list(BOUNDED) + [("u", 6)], 14, False)
        heights = height_list(BOUNDED)
        self.check(BOUNDED, heights[:2] + [("u", 6)] + heights[2:], 14, False)

    def test_things_of_other_kinds(self):
        deep = []
        for count in range(98):
            deep = [deep]
        for book in self.BOOKS:
            heights = height_list(book)
            size = greatest_in(book, heights)
            for thing in ODD_THINGS + [tuple(heights), [heights], deep, [None], "heights"]:
                self.check(book, thing, size, False)
            self.check(book, None, None, False)
            self.check(book, [], 0, False)

    def test_none_where_there_is_a_round_or_no_plan(self):
        for book in [ENDLESS, DENSE, IDLE, BUSY] + ROUNDS[:3] + NO_PLANS:
            keys = [key for key, tree in book[1]]
            used = used_in(book)
            for size in [0, 1, 2, 3, 10 ** 59]:
                self.check(book, [], size, False)
                self.check(book, [(key, 1) for key in keys], size, False)
                self.check(book, [(key, 1) for key in used], size, False)
            for numbers in itertools.product([1, 2, 3], repeat=min(len(used), 5)):
                self.check(book, list(zip(used, numbers)), max(numbers, default=1), False)

    def test_books_made_by_chance(self):
        for seed in range(150):
            book = chance_book(seed, 1 + seed % 9, ("S", "M", "SM", "N", "K", "L", "Q"))
            heights = height_list(book)
            if heights:
                size = greatest_in(book, heights)
                self.check(book, heights, size, True)
                for at, (key, number) in enumerate(heights):
                    for more in [-1, 1]:
                        bent = heights[:at] + [(key, number + more)] + heights[at + 1:]
                        self.check(book, bent, size, False)
                        self.check(book, bent, size + more, False)


if __name__ == "__main__":
    unittest.main()
