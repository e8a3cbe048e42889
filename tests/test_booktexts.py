"""Points 2 and 10: books written and read."""

import unittest

from graftsay.booktexts import book_rows, read_book
from graftsay.errors import GraftError
from tests.support import (
    A, B, BOUNDED, BOUNDED_ROWS, ENDLESS, NAME, NO_TREE_WORDS, TREE_WORDS, VOID, book_fault, deep_tree, edits, fault_told,
    knot, plain_tree, tree_end, whole_end,
)

ENDLESS_ROWS = [
    "top S",
    "s : [ S a [ X ?M b ] c ]",
    "g : [ X a [ Y ?M b *M c ] d ]",
    "h : [ X ?M +S *M e ]",
]
SMALL_ROWS = ["top S", "top : [ S ?M a +N ]", "m1 : [ M b *M ]", "n : [ N top - ]"]
SMALL_BOOK = ("S", (
    ("top", knot("S", A, ("hole", "N"), takes=("M", False))),
    ("m1", knot("M", B, ("foot", "M"))),
    ("n", knot("N", ("sign", "top"), VOID)),
))
WRITTEN_BOOKS = [(BOUNDED_ROWS, BOUNDED), (ENDLESS_ROWS, ENDLESS), (SMALL_ROWS, SMALL_BOOK)]


def many_rows(many):
    return ["top S"] + [f"k{number} : [ S a ]" for number in range(many)]


def bad_row(rows):
    """The number that NoRow has to tell, None where all are rows."""
    if not rows:
        return 0
    for number, text in enumerate(rows):
        words = text.split(" ")
        if number == 0:
            sound = len(words) == 2 and words[0] == "top" and NAME.fullmatch(words[1])
        else:
            sound = words[1:2] == [":"] and whole_end(tree_end, words[2:]) is None
        if not sound:
            return number
    return None


class Written(unittest.TestCase):
    def test_rows(self):
        for rows, book in WRITTEN_BOOKS:
            self.assertEqual(book_rows(book), rows)

    def test_read(self):
        for rows, book in WRITTEN_BOOKS:
            kept = list(rows)
            told = read_book(rows)
            self.assertEqual(told, book)
            self.assertEqual(repr(told), repr(book))
            self.assertEqual(rows, kept)

    def test_edges_written_and_read(self):
        for book in [
            ("Z" * 24, (("z" * 24, knot("Y" * 24, ("sign", "abcdef"), takes=("X" * 24, True))),)),
            ("S", (("a", plain_tree(60)), ("b", deep_tree(11)))),
            ("S", tuple((f"k{number}", knot("S", A)) for number in range(400))),
        ]:
            self.assertEqual(read_book(book_rows(book)), book)

    def test_rows_are_told_anew(self):
        for rows, book in WRITTEN_BOOKS:
            first, second = book_rows(book), book_rows(book)
            self.assertIsInstance(first, list)
            self.assertIsNot(first, second)
            first[0] = "mine"
            first.append("mine")
            self.assertEqual(second, rows)
            self.assertEqual(book_rows(book), rows)

    def test_the_list_handed_in_is_not_kept(self):
        for rows, book in WRITTEN_BOOKS:
            handed = list(rows)
            told = read_book(handed)
            handed[1] = "x : [ X x ]"
            handed.clear()
            self.assertEqual(told, book)


class Refused(unittest.TestCase):
    def refused(self, rows, *fault):
        kept = list(rows)
        with self.assertRaises(GraftError, msg=repr(rows)) as caught:
            read_book(rows)
        self.assertEqual(fault_told(caught.exception), fault, rows)
        self.assertEqual(rows, kept)

    def held(self, rows):
        """Holds what is told of rows against what is found here by another way."""
        number = bad_row(rows)
        if number is not None:
            self.refused(rows, "NoRow", number)
            return
        trees = [(text.split(" ")[0], text.split(" ")[2:]) for text in rows[1:]]
        fault = book_fault([(key, tree_here(words)) for key, words in trees])
        if fault is not None:
            self.refused(rows, *fault)
        else:
            self.assertEqual(book_rows(read_book(rows)), rows)

    def test_no_text(self):
        self.refused([], "NoRow", 0)

    def test_tops(self):
        for top in [
            "", " ", "top", "top ", " top S", "top  S", "top S ", "top s", "top 1", "top S\n", "top S\t", "top\tS", "\ntop S",
            "Top S", "top S T", "S", "S top", "top : S", "top : [ S a ]", "s : [ S a ]", "top " + "S" * 25, "tops S", "top -",
        ]:
            self.refused([top], "NoRow", 0)
            self.refused([top, "s : [ S a ]"], "NoRow", 0)
            self.refused([top, "", "s"], "NoRow", 0)

    def test_later_rows(self):
        for row in [
            "", " ", "s", "s ", "s :", "s : ", "s: [ S a ]", "s :[ S a ]", "s  : [ S a ]", "s :  [ S a ]", " s : [ S a ]",
            "s : [ S a ] ", "s : [ S a ]\n", "s : [ S a ]\t", "s\t: [ S a ]", "s :\n[ S a ]", "s [ S a ]", "s ; [ S a ]",
            "s : [ S a", "s : [ S ]", "s : [ S a ] b", "s : S", "s : [ s a ]", "s : : [ S a ]", "s t : [ S a ]", "[ S a ]",
            ": [ S a ]", "top S", "s : [ S a b c d e f g h i ]", "s : [ S\n a ]", "s :: [ S a ]",
        ]:
            self.refused(["top S", row], "NoRow", 1)
            self.refused(["top S", "a : [ S a ]", row, ""], "NoRow", 2)
            self.refused(["top S", "A : a", "A : a", row], "NoRow", 3)

    def test_a_word_ahead_of_the_colon_whichever(self):
        for word in ["", "A", "S", "1", ":", "a-b", "a" * 25, "a\n", "a\t", "[", "]", "-", "+N"]:
            self.refused(["top S", word + " : [ S a ]"], "NoKey", 0)
            self.refused(["top S", "a : [ S a ]", word + " : [ S a ]", "a : a"], "NoKey", 1)

    def test_rows_go_first(self):
        self.refused(["top S", " : [ S a ]", "a : "], "NoRow", 2)
        self.refused(["top S", "a : a", "a : [ S a ]", "b"], "NoRow", 3)
        self.refused(many_rows(401) + ["top S"], "NoRow", 402)
        self.refused(["top s", "a : a"], "NoRow", 0)

    def test_then_as_books_are_made(self):
        self.refused(["top S"], "NoKey", 0)
        self.refused(many_rows(401), "NoKey", 400)
        self.refused(many_rows(399) + ["k5 : [ S a ]"], "Twice", "k5")
        self.refused(["top S", "a : [ S a ]", "a : [ S a ]"], "Twice", "a")
        self.refused(["top S", "a : [ S a ]", "b : a"], "NoTree", "b", "knot")
        self.refused(["top S", "a : -"], "NoTree", "a", "knot")
        self.refused(["top S", "a : [ S *M *M ]"], "NoTree", "a", "feet")
        self.refused(["top S", "a : [ S *M - ]"], "NoTree", "a", "sign")
        self.refused(["top S", "a : " + "[ S " * 12 + "a" + " ]" * 12], "NoTree", "a", "great")
        self.refused(["top S", "a : [ S " + "[ X a a a a a a a ] " * 7 + "[ X a a a ] ]"], "NoTree", "a", "great")
        self.refused(["top S", "a : a", "A : [ S a ]"], "NoTree", "a", "knot")
        self.refused(["top S", "a : [ S a ]", "A : a", "a : a"], "NoKey", 1)
        self.assertEqual(len(read_book(many_rows(400))[1]), 400)

    def test_rows_left_out_doubled_moved(self):
        for rows, book in WRITTEN_BOOKS:
            for at in range(len(rows)):
                self.held(rows[:at] + rows[at + 1:])
                self.held(rows[:at] + [rows[at]] + rows[at:])
                self.held(rows[:at])
                for other in range(at):
                    turned = list(rows)
                    turned[at], turned[other] = turned[other], turned[at]
                    self.held(turned)

    def test_each_word_of_each_row_edited(self):
        others = TREE_WORDS + NO_TREE_WORDS + ["top", "top1"]
        for at, row in enumerate(SMALL_ROWS):
            for words in edits(row.split(" "), others):
                self.held(SMALL_ROWS[:at] + [" ".join(words)] + SMALL_ROWS[at + 1:])


def tree_here(words):
    """The tree that words write, where they do."""
    stack = [[]]
    for at, word in enumerate(words):
        if word == "[":
            stack.append([words[at + 1], None])
        elif word == "]":
            name, takes, *kids = stack.pop()
            stack[-1].append(("knot", name, takes, tuple(kids)))
        elif at and words[at - 1] == "[":
            continue
        elif word[0] in "?!":
            stack[-1][1] = (word[1:], word[0] == "!")
        elif word[0] in "+*":
            stack[-1].append(("hole" if word[0] == "+" else "foot", word[1:]))
        else:
            stack[-1].append(VOID if word == "-" else ("sign", word))
    return stack[0][0]


if __name__ == "__main__":
    unittest.main()
