"""Points 2, 3, 4, 20, 21 and 22: which trees end, which are of use, what shows that others are not, trimmed books."""

import itertools
import time
import unittest

from graftsay.books import is_book
from graftsay.errors import GraftError, NoPlan
from graftsay.plans import is_plan, is_whole
from graftsay.useful import shows_unused, trimmed, useful
from tests.support import (
    A, B, BOUNDED, BOUNDED_PLANS, DENSE, ENDLESS, ODD_THINGS, ROUNDS, chance_book, keys_in, knot, plans_of_signs,
    put_keys, rows_and_plans, walked,
)

FOOT = ("foot", "M")
N = ("hole", "N")
# Trees that don't end: d and e, each for want of the other; f, as nobody bears the name; and one round a graft.
# Trees that end and no whole plan has: a start of another name, those that only it or a tree that doesn't end leads to.
BOOK = ("S", (
    ("f", knot("S", A, ("hole", "NOBODY"))),
    ("d", knot("D", A, ("hole", "E"))),
    ("m", knot("X", A, FOOT, takes=("L", False))),
    ("s", knot("S", A, knot("X", B, takes=("M", False)), ("hole", "N"))),
    ("e", knot("E", A, ("hole", "D"))),
    ("g", knot("X", A, ("foot", "G"), takes=("G", True))),
    ("h", knot("S", B, takes=("G", True))),
    ("alone", knot("Q", A, ("hole", "R"), takes=("P", False))),
    ("r", knot("R", A)),
    ("p", knot("P", A, ("foot", "P"))),
    ("under", knot("UNDER", A)),
    ("over", knot("S", A, ("hole", "UNDER"), ("hole", "E"))),
    ("n", knot("N", A)),
    ("n2", knot("N", A, ("hole", "N"), takes=("M", True))),
    ("l", knot("L", A, ("foot", "L"), ("hole", "D"))),
    ("topless", knot("S", A, ("foot", "S"))),
))
ENDS = ["f", "d", "e", "g", "h", "over", "l"]
WAYS = ["alone", "r", "p", "under", "topless"]
USED = ["m", "s", "n", "n2"]

# Books and the keys that don't end and that are not of use, by hand.
HAND = [
    (BOOK, ENDS, WAYS),
    (("Q", BOOK[1]), ENDS, ["m", "s", "under", "n", "n2", "topless"]),
    (("N", BOOK[1]), ENDS, ["s", "alone", "r", "p", "under", "topless"]),
    (("D", BOOK[1]), ENDS, ["m", "s", "alone", "r", "p", "under", "n", "n2", "topless"]),
    (("NOBODY", BOOK[1]), ENDS, ["m", "s", "alone", "r", "p", "under", "n", "n2", "topless"]),
    (("M", BOOK[1]), ENDS, ["m", "s", "alone", "r", "p", "under", "n", "n2", "topless"]),
    (ENDLESS, [], []),
    (DENSE, [], []),
    (BOUNDED, [], ["u"]),
    (ROUNDS[0], [], []), (ROUNDS[1], [], []), (ROUNDS[2], [], []),
    (ROUNDS[3], ["s", "m"], []), (ROUNDS[4], ["s", "m"], []),
    (("S", (("s", knot("S", A)),)), [], []),
    (("T", (("s", knot("S", A)),)), [], ["s"]),
    (("S", (("s", knot("S", A, ("hole", "S"))),)), ["s"], []),
    (("S", (("s", knot("S", A, takes=("M", False))), ("m", knot("X", A, FOOT, takes=("M", True))))), ["m"], []),
]


def places_of(tree):
    """The places of a tree at which something can be put, each with its piece and whether something must be."""
    return [
        (place, piece, piece[0] == "hole" or piece[2][1])
        for place, piece in walked(tree) if piece[0] == "hole" or piece[0] == "knot" and piece[2]
    ]


def shown(book, ends, ways):
    """Whether two things show by point 21 that their trees are in no whole plan."""
    trees = dict(book[1])
    for thing in [ends, ways]:
        if type(thing) is not list or not all(type(key) is str and key in trees for key in thing):
            return False
    both = ends + ways
    if len(set(both)) != len(both):
        return False
    for key in ends:
        if not any(must and set(put_keys(book, piece)) <= set(ends) for place, piece, must in places_of(trees[key])):
            return False
    if any(key in put_keys(book, ("hole", book[0])) for key in ways):
        return False
    for key in trees:
        for place, piece, must in places_of(trees[key]):
            if key not in both and set(put_keys(book, piece)) & set(ways):
                return False
    return True


class Useful(unittest.TestCase):
    def check(self, book):
        told = useful(book)
        self.assertIs(type(told), tuple)
        self.assertEqual([type(part) for part in told], [list] * 4)
        built, come, ends, ways = told
        order = [key for key, tree in book[1]]
        plans = self.check_built(book, built)
        self.check_come(book, come, plans)
        used = [key for key, parent, place in come]
        self.assertEqual(ends, [key for key in order if key not in plans])
        self.assertEqual(ways, [key for key in order if key in plans and key not in used])
        # By these nothing is left out of the first two lists.
        self.assertTrue(shown(book, ends, ways), book)
        self.assertIs(shows_unused(book, ends, ways), True)
        return told

    def check_built(self, book, built):
        """Each tuple of built against the point's words; a plan for each key of it."""
        trees = dict(book[1])
        plans = {}
        for row in built:
            self.assertIs(type(row), tuple)
            key, puts = row
            self.assertNotIn(key, plans)
            self.assertIs(type(puts), tuple)
            due = [(place, piece) for place, piece, must in places_of(trees[key]) if must]
            self.assertEqual([place for place, other in puts], [place for place, piece in due])
            for (place, other), (same, piece) in zip(puts, due):
                self.assertIn(other, put_keys(book, piece))
                self.assertIn(other, plans)
            plans[key] = (key, tuple((place, plans[other]) for place, other in puts))
        return plans

    def check_come(self, book, come, plans):
        """Each tuple of come against the point's words."""
        trees = dict(book[1])
        wholes = {}
        tops = put_keys(book, ("hole", book[0]))
        for row in come:
            self.assertIs(type(row), tuple)
            key, parent, place = row
            self.assertNotIn(key, wholes)
            self.assertIn(key, plans)
            if key in tops:
                self.assertEqual((parent, place), (None, None))
                wholes[key] = (key,)
                continue
            self.assertIn(parent, wholes)
            self.assertIn(key, put_keys(book, dict(walked(trees[parent]))[place]))
            wholes[key] = wholes[parent] + ((place, key),)
        for key, way in wholes.items():
            plan = plan_along(plans, list(way))
            if len(keys_in(plan)) < 200:
                self.assertIs(is_plan(book, plan), True)
                self.assertIs(is_whole(book, plan), True)
                self.assertIn(key, keys_in(plan))

    def test_by_hand(self):
        for book, ends, ways in HAND:
            told = self.check(book)
            self.assertEqual(told[2:], (ends, ways), book)

    def test_a_book_whose_plans_end(self):
        used = {key for plan in BOUNDED_PLANS if is_whole(BOUNDED, plan) for key in keys_in(plan)}
        own = {plan[0] for plan in BOUNDED_PLANS}
        built, come, ends, ways = self.check(BOUNDED)
        self.assertEqual({key for key, puts in built}, own)
        self.assertEqual({key for key, parent, place in come}, used)

    def test_other_tops(self):
        for top in ["N", "K", "M", "P", "T", "Q", "L", "R"]:
            used = {key for plan in BOUNDED_PLANS if is_whole((top, BOUNDED[1]), plan) for key in keys_in(plan)}
            told = self.check((top, BOUNDED[1]))
            self.assertEqual({key for key, parent, place in told[1]}, used)

    def test_books_made_by_chance(self):
        found = set()
        for seed in range(500):
            book = chance_book(seed, 1 + seed % 9, ("S", "M", "SM", "N", "K"))
            told = self.check(book)
            found.add(tuple(bool(part) for part in told))
            used = {key for plan in plans_of_signs(book, 5) for key in keys_in(plan)}
            self.assertLessEqual(used, {key for key, parent, place in told[1]})
        # There were books with trees that don't end, with trees that are not of use, with both and with neither.
        self.assertEqual({told[2:] for told in found}, set(itertools.product([False, True], repeat=2)))

    def test_the_order_of_the_book(self):
        for trees in itertools.islice(itertools.permutations(BOOK[1]), 0, 2 * 10 ** 5, 9973):
            told = self.check((BOOK[0], trees))
            self.assertEqual(sorted(told[2]), sorted(ENDS))
            self.assertEqual(sorted(told[3]), sorted(WAYS))
        self.check((BOOK[0], BOOK[1][::-1]))

    def test_great_books(self):
        began = time.monotonic()
        chain = []
        for number in range(199):
            chain.append(("k" + str(number), knot("N" + str(number), A, ("hole", "N" + str(number + 1)), knot(
                "X", A, takes=("M" + str(number), True)))))
            chain.append(("g" + str(number), knot("X", A, ("foot", "M" + str(number)), takes=("M" + str(number - 1), False))
                         if number else knot("X", A, ("foot", "M0"))))
        last = [("k199", knot("N199", A))]
        for trees in [chain + last, last + chain[::-1]]:
            built, come, ends, ways = useful(("N0", tuple(trees)))
            self.assertEqual((len(built), len(come), ends, ways), (399, 399, [], []))
        built, come, ends, ways = useful(("N0", tuple(chain)))
        self.assertEqual((len(built), len(come), len(ends), len(ways)), (199, 0, 199, 199))
        self.assertIs(shows_unused(("N0", tuple(chain)), ends, ways), True)
        self.assertLess(time.monotonic() - began, 30)

    def test_lists_are_new_and_nothing_is_changed(self):
        before = repr(BOOK)
        for book in [BOOK, ENDLESS, ROUNDS[3]]:
            first, second = useful(book), useful(book)
            self.assertEqual(repr(first), repr(second))
            kept = repr(second)
            parts = [part for told in [first, second] for part in told]
            for one, other in itertools.combinations(parts, 2):
                self.assertIsNot(one, other)
            for part in first:
                part.append("mine")
                part[0] = "mine"
            self.assertEqual(repr(second), kept)
            self.assertEqual(repr(useful(book)), kept)
        self.assertEqual(repr(BOOK), before)


def plan_along(plans, way):
    """The plan that goes from a whole along tuples (place, key), and is elsewhere as plans has it."""
    own, steps = way[0], way[1:]
    if not steps:
        return plans[own]
    place, key = steps[0]
    puts = dict(plans[own][1])
    puts[place] = plan_along(plans, [key] + steps[1:])
    return (own, tuple(sorted(puts.items())))


class ShowsUnused(unittest.TestCase):
    def check(self, book, ends, ways, expected=None):
        before = repr((book, ends, ways))
        told = shows_unused(book, ends, ways)
        self.assertIs(type(told), bool)
        self.assertIs(told, shown(book, ends, ways), (ends, ways))
        if expected is not None:
            self.assertIs(told, expected, (ends, ways))
        self.assertEqual(repr((book, ends, ways)), before)

    def test_lists_told(self):
        for book, ends, ways in HAND:
            self.check(book, ends, ways, True)
            self.check(book, ends[::-1], ways[::-1], True)
            self.check(book, ways, ends, not ends and not ways)

    def test_all_pairs_of_lists(self):
        for book in ROUNDS[2:] + [ENDLESS, HAND[-1][0], HAND[-2][0], ("S", BOOK[1][:5]), ("D", BOOK[1][:5])]:
            keys = [key for key, tree in book[1]]
            for choice in itertools.product(range(3), repeat=len(keys)):
                ends = [key for key, one in zip(keys, choice) if one == 1]
                ways = [key for key, one in zip(keys, choice) if one == 2]
                self.check(book, ends, ways)

    def test_nothing_shown_is_in_a_plan(self):
        for book in [ENDLESS, ROUNDS[2], ("S", BOOK[1][:5]), ("S", BOOK[1][2:6] + BOOK[1][12:14])]:
            keys = [key for key, tree in book[1]]
            used = {key for plan in plans_of_signs(book, 6) for key in keys_in(plan)}
            for choice in itertools.product(range(3), repeat=len(keys)):
                ends = [key for key, one in zip(keys, choice) if one == 1]
                ways = [key for key, one in zip(keys, choice) if one == 2]
                if shows_unused(book, ends, ways):
                    self.assertFalse(used & set(ends + ways))

    def test_others_that_show_it(self):
        self.check(BOOK, [], [], True)
        self.check(BOOK, ["f"], [], True)
        self.check(BOOK, ["d", "e"], [], True)
        self.check(BOOK, ["e", "d", "l", "over"], [], True)
        self.check(BOOK, [], ["alone"], True)
        self.check(BOOK, [], ["alone", "r"], True)
        self.check(BOOK, [], ["alone", "p", "r", "topless"], True)
        self.check(BOOK, ["h", "g"], ["alone"], True)
        self.check(BOOK, ["d", "e", "over"], ["under"], True)
        # Trees that don't end may stand among ways, where nothing else leads to them.
        self.check(("Q", BOOK[1]), [], [key for key, tree in BOOK[1] if key not in ("alone", "r", "p")], True)
        self.check(BOOK, ["f"], ["alone", "g"], False)
        self.check(BOOK, ["h"], ["alone", "g"], False)

    def test_that_do_not(self):
        for ends, ways in [
            (["d"], []), (["e"], []), (["over"], []), (["l"], []), (["h"], []), (["s"], []), (["n"], []), (["n2"], []),
            (["m"], []), (["r"], []), ([], ["s"]), ([], ["f"]), ([], ["r"]), ([], ["under"]), ([], ["n"]), ([], ["m"]),
            ([], ["p"]), ([], ["l"]), ([], ["d"]), ([], ["d", "e"]), (["m", "s"], []), ([], ["over", "under"]),
        ]:
            self.check(BOOK, ends, ways, False)

    def test_a_key_left_out(self):
        for key in ENDS + WAYS:
            self.check(BOOK, [one for one in ENDS if one != key], [one for one in WAYS if one != key])
        # A knot that may take only what doesn't end is no reason; nothing else hangs on f, h, over and l.
        for key in ["d", "e", "g"]:
            self.check(BOOK, [one for one in ENDS if one != key], WAYS, False)
        self.check(BOOK, ENDS, [key for key in WAYS if key != "alone"], False)
        self.check(BOOK, [key for key in ENDS if key != "over"], WAYS, False)
        for key in ["f", "h", "l"]:
            self.check(BOOK, [one for one in ENDS if one != key], WAYS, True)

    def test_a_key_more(self):
        for key in USED:
            self.check(BOOK, ENDS + [key], WAYS, False)
            self.check(BOOK, ENDS, WAYS + [key], False)
        for key in ENDS:
            self.check(BOOK, [one for one in ENDS if one != key], WAYS + [key])
        for key in WAYS:
            self.check(BOOK, ENDS + [key], [one for one in WAYS if one != key], False)

    def test_a_key_twice_or_in_both(self):
        for key in ENDS:
            self.check(BOOK, ENDS + [key], WAYS, False)
            self.check(BOOK, ENDS, WAYS + [key], False)
        for key in WAYS:
            self.check(BOOK, ENDS, [key] + WAYS, False)
            self.check(BOOK, [key] + ENDS, WAYS, False)

    def test_keys_that_are_none_of_the_books(self):
        for key in ["x", "", "S", "f\n", "NOBODY", None, 0, True, ("f",), ["f"], [], ()]:
            self.check(BOOK, ENDS + [key], WAYS, False)
            self.check(BOOK, ENDS, WAYS + [key], False)
            self.check(BOOK, [key], [], False)
            self.check(BOOK, [], [key], False)

    def test_things_of_other_kinds(self):
        deep = []
        for count in range(98):
            deep = [deep]
        for thing in ODD_THINGS + [tuple(ENDS), "f", [ENDS], (ENDS, WAYS), deep, [[]], [["f"]]]:
            self.check(BOOK, thing, WAYS, thing == [] and shown(BOOK, [], WAYS))
            self.check(BOOK, ENDS, thing, thing == [])
        self.check(BOOK, tuple(ENDS), tuple(WAYS), False)
        self.check(BOOK, None, None, False)

    def test_books_made_by_chance(self):
        for seed in range(120):
            book = chance_book(seed, 1 + seed % 9, ("S", "M", "SM", "N"))
            built, come, ends, ways = useful(book)
            self.check(book, ends, ways, True)
            for key, tree in book[1]:
                self.check(book, [one for one in ends if one != key], ways)
                self.check(book, ends, [one for one in ways if one != key])
                self.check(book, ends + [key], ways)
                self.check(book, ends, ways + [key])


class Trimmed(unittest.TestCase):
    def refused(self, book):
        with self.assertRaises(NoPlan) as caught:
            trimmed(book)
        self.assertIs(type(caught.exception), NoPlan)
        self.assertIsInstance(caught.exception, GraftError)
        self.assertIsInstance(caught.exception, ValueError)

    def check(self, book):
        used = [key for key, parent, place in useful(book)[1]]
        if not used:
            self.refused(book)
            return
        told = trimmed(book)
        self.assertIs(is_book(told), True)
        self.assertEqual(told, (book[0], tuple(row for row in book[1] if row[0] in used)))
        self.assertEqual(rows_and_plans(told, 5), rows_and_plans(book, 5))
        self.assertEqual(trimmed(told), told)
        self.assertEqual(useful(told)[2:], ([], []))

    def test_by_hand(self):
        told = trimmed(BOOK)
        self.assertEqual([key for key, tree in told[1]], USED)
        self.assertEqual(told, ("S", tuple(row for row in BOOK[1] if row[0] in USED)))
        for book, ends, ways in HAND:
            if len(ends) + len(ways) == len(book[1]):
                self.refused(book)
            self.check(book)

    def test_all_of_use(self):
        for book in [ENDLESS, DENSE, ROUNDS[0], ROUNDS[1], ROUNDS[2]]:
            self.assertEqual(trimmed(book), book)

    def test_the_same_whole_plans(self):
        whole = [plan for plan in BOUNDED_PLANS if is_whole(BOUNDED, plan)]
        told = trimmed(BOUNDED)
        self.assertEqual([key for key, tree in told[1]], [key for key, tree in BOUNDED[1] if key in sum(map(keys_in, whole), [])])
        for plan in BOUNDED_PLANS:
            self.assertIs(is_plan(told, plan), plan in whole or set(keys_in(plan)) <= {key for key, tree in told[1]})

    def test_the_order_of_the_book(self):
        for turn in range(len(BOOK[1])):
            self.check((BOOK[0], BOOK[1][turn:] + BOOK[1][:turn]))

    def test_no_tree_of_use(self):
        for top in ["D", "E", "NOBODY", "M", "G", "UNDER2"]:
            self.refused((top, BOOK[1]))
        self.refused(("S", (("m", knot("S", A, ("foot", "S"))),)))
        self.refused(ROUNDS[3])
        self.refused(ROUNDS[4])

    def test_books_made_by_chance(self):
        for seed in range(250):
            self.check(chance_book(seed, 1 + seed % 9, ("S", "M", "SM", "N", "K")))
            self.check(("M", chance_book(seed, 1 + seed % 9, ("S", "M", "SM", "N", "K"))[1]))

    def test_nothing_is_changed(self):
        before = repr(BOOK)
        self.assertEqual(repr(trimmed(BOOK)), repr(trimmed(BOOK)))
        self.assertEqual(repr(BOOK), before)


if __name__ == "__main__":
    unittest.main()
