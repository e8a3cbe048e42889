"""Points 2 and 26: walkers, and the rows that they take."""

import itertools
import unittest

from graftsay.walkers import is_taken, is_walker
from tests.support import ODD_THINGS, SIGN, chance_walker, goes_along, spoiled, takes_row

# As many a, but for fours, as one likes; b anywhere leads back.
THREE = (3, 0, (0, 2), ((0, "a", 1), (1, "a", 2), (2, "a", 0), (1, "b", 0), (0, "ab", 0)))
FIVE = (5, 4, (0, 1, 2, 3, 4), ((4, "a", 0), (0, "a", 1), (1, "a", 2), (2, "a", 3), (3, "b", 4)))
ONE = (1, 0, (0,), ((0, "a", 0),))
NO_ENDS = (2, 1, (), ((1, "a", 1), (1, "b", 0)))
NO_STEPS = (2, 1, (1,), ())
LETTERS = "abcdefgh"
FORTY = (5, 0, (1,), tuple((state, letter, (state + 1) % 5) for state in range(5) for letter in LETTERS))
WALKERS = [THREE, FIVE, ONE, NO_ENDS, NO_STEPS, FORTY]


def number(thing):
    return type(thing) is int


def looks_walker(thing):
    """Whether a thing is a walker."""
    if type(thing) is not tuple or len(thing) != 4:
        return False
    many, begin, ends, steps = thing
    if not number(many) or many not in (1, 2, 3, 4, 5) or not number(begin) or not 0 <= begin < many:
        return False
    if type(ends) is not tuple or not all(number(state) and 0 <= state < many for state in ends):
        return False
    if any(one >= other for one, other in zip(ends, ends[1:])):
        return False
    if type(steps) is not tuple or len(steps) > 40:
        return False
    for step in steps:
        if type(step) is not tuple or len(step) != 3 or not number(step[0]) or not number(step[2]):
            return False
        if type(step[1]) is not str or not SIGN.fullmatch(step[1]) or not (0 <= step[0] < many and 0 <= step[2] < many):
            return False
    return not any(one[:2] == other[:2] for one, other in itertools.combinations(steps, 2))


class IsWalker(unittest.TestCase):
    def check(self, thing, expected=None):
        before = repr(thing)
        told = is_walker(thing)
        self.assertIs(type(told), bool)
        self.assertIs(told, looks_walker(thing), thing)
        if expected is not None:
            self.assertIs(told, expected, thing)
        self.assertEqual(repr(thing), before)

    def test_walkers(self):
        for walker in WALKERS:
            self.check(walker, True)
            self.check(walker[:3] + (walker[3][::-1],), True)
        for seed in range(60):
            self.check(chance_walker(seed), True)

    def test_how_many_states(self):
        for many in [-1, 0, 1, 2, 3, 4, 5, 6, 7, 10 ** 59, None, True, False, "1", "3", (3,), [3]]:
            self.check((many, 0, (0,), ()), type(many) is int and 1 <= many <= 5)
            self.check((many, 0, (), ((0, "a", 0),)), type(many) is int and 1 <= many <= 5)
            for walker in WALKERS:
                self.check((many,) + walker[1:])

    def test_begin(self):
        for many in range(1, 6):
            for begin in [-1, 0, 1, 2, 3, 4, 5, 6, None, True, False, "0", (0,), [0], 10 ** 59]:
                self.check((many, begin, (0,), ()), type(begin) is int and 0 <= begin < many)

    def test_ends(self):
        for many in range(1, 6):
            for ends in itertools.chain.from_iterable(itertools.product(range(-1, many + 1), repeat=count) for count in range(4)):
                self.check((many, 0, ends, ()), list(ends) == sorted(set(ends)) and all(0 <= end < many for end in ends))
                self.check((many, 0, list(ends), ()), False)
        for ends in [None, 0, "", "0", (None,), (True,), (False,), (0, True), ("0",), ((0,),), ([],), (0, [1])]:
            self.check((3, 0, ends, ()), False)
        self.check((5, 0, (0, 1, 2, 3, 4), ()), True)
        self.check((5, 0, (0, 1, 2, 4, 3), ()), False)

    def test_steps(self):
        for step in [(0, "a", 0), (2, "abcdef", 0), (0, "z", 2)]:
            self.check((3, 0, (0,), (step,)), True)
            self.check((3, 0, (0,), [step]), False)
            self.check((3, 0, (0,), (list(step),)), False)
        for text in ["", "A", "a1", "abcdefg", "a ", "a\n", "-", "+N", None, 0, True, ("a",), ["a"]]:
            self.check((3, 0, (0,), ((0, text, 0),)), False)
        for state in [-1, 3, 10 ** 59, None, True, False, "0", (0,), [0]]:
            self.check((3, 0, (0,), ((state, "a", 0),)), False)
            self.check((3, 0, (0,), ((0, "a", state),)), False)
        for steps in [None, 0, "", "a", (None,), ((),), ((0, "a"),), ((0, "a", 0, 0),), (0, "a", 0), ("0a0",), ([],)]:
            self.check((3, 0, (0,), steps), False)

    def test_two_steps_for_one_state_and_sign(self):
        self.check((3, 0, (0,), ((0, "a", 0), (0, "a", 1))), False)
        self.check((3, 0, (0,), ((0, "a", 0), (1, "a", 1), (0, "a", 0))), False)
        self.check((3, 0, (0,), ((0, "a", 0), (1, "a", 0), (0, "b", 0))), True)
        for at in range(40):
            state, letter, other = FORTY[3][at]
            for steps in [FORTY[3][1:] if at else FORTY[3][:-1]]:
                self.check(FORTY[:3] + (steps + ((state, letter, (other + 1) % 5),),), False)

    def test_forty_steps(self):
        self.check(FORTY, True)
        self.assertEqual(len(FORTY[3]), 40)
        self.check(FORTY[:3] + (FORTY[3][:39],), True)
        self.check(FORTY[:3] + (FORTY[3] + ((0, "i", 0),),), False)
        self.check((1, 0, (0,), tuple((0, one + other, 0) for one in "abcdefgh" for other in "abcde")), True)
        self.check((1, 0, (0,), tuple((0, one + other, 0) for one in "abcdefg" for other in "abcdef")), False)
        self.check((1, 0, (0,), tuple((0, one + other, 0) for one in "abcdefghijkl" for other in "abcdefghijkl")), False)

    def test_spoiled(self):
        for walker in [THREE, ONE, NO_ENDS, NO_STEPS]:
            for thing in spoiled(walker):
                self.check(thing)

    def test_things_of_other_kinds(self):
        deep = ()
        for count in range(98):
            deep = (deep, deep) if count < 3 else (deep,)
        for thing in ODD_THINGS + [deep, list(ONE), {}, [ONE], (ONE,), ONE + (None,), ONE[:3], (1, 0, (0,), deep)]:
            if type(thing) is not dict:
                self.check(thing, False)


class IsTaken(unittest.TestCase):
    def check(self, walker, row, expected=None):
        before = repr((walker, row))
        told = is_taken(walker, row)
        self.assertIs(type(told), bool)
        self.assertIs(told, takes_row(walker, row), (walker, row))
        if expected is not None:
            self.assertIs(told, expected, (walker, row))
        self.assertEqual(repr((walker, row)), before)

    def test_the_row_of_none(self):
        for walker, taken in [(THREE, True), (FIVE, True), (ONE, True), (NO_ENDS, False), (NO_STEPS, True), (FORTY, False)]:
            self.check(walker, (), taken)
        self.check((2, 1, (0,), ()), (), False)

    def test_by_hand(self):
        for row, taken in [
            ("a", False), ("aa", True), ("aaa", True), ("aaaa", False), ("ab", True), ("b", False), ("aab", False),
            ("aaab", False), ("aaaab", True), ("aaaaa", True), ("abab", True), ("aba", False), ("c", False), ("aac", False),
        ]:
            self.check(THREE, tuple(row), taken)
        self.check(THREE, ("ab",), True)
        self.check(THREE, ("ab", "a", "a", "a", "ab"), True)
        self.check(THREE, ("a", "ab"), False)
        self.check(ONE, ("a",) * 12, True)
        self.check(ONE, ("a",) * 11 + ("b",), False)
        self.check(NO_STEPS, ("a",), False)
        for length in range(13):
            self.check(FORTY, tuple("abcdefghabcd"[:length]), length % 5 == 1)

    def test_all_short_rows(self):
        for walker in WALKERS + [chance_walker(seed, ("a", "b", "ab")) for seed in range(40)]:
            for length in range(6):
                for row in itertools.product(["a", "b", "ab"], repeat=length):
                    self.check(walker, row)

    def test_steps_in_any_order(self):
        for walker in WALKERS:
            for row in itertools.product("ab", repeat=5):
                turned = walker[:3] + (walker[3][::-1],)
                self.assertIs(is_taken(turned, row), is_taken(walker, row))
                self.assertEqual(goes_along(turned, walker[1], row), goes_along(walker, walker[1], row))


if __name__ == "__main__":
    unittest.main()
