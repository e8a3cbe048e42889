"""Points 2 and 7: trees written and read."""

import unittest

from graftsay.errors import NoText
from graftsay.words import read_tree, take_tree, tree_text
from tests.support import (
    A, NO_TREE_WORDS, TREE_WORDS, TREES, WRITTEN_TREES, deep_tree, edits, knot, sign, tree_end, whole_end,
)


class Written(unittest.TestCase):
    def test_trees_written(self):
        for text, tree in WRITTEN_TREES:
            self.assertEqual(tree_text(tree), text)

    def test_trees_read(self):
        for text, tree in WRITTEN_TREES:
            told = read_tree(text)
            self.assertEqual(told, tree)
            self.assertEqual(repr(told), repr(tree))

    def test_deep_and_long_trees(self):
        deep = deep_tree(39)
        self.assertEqual(tree_text(deep), "[ S " * 39 + "a" + " ]" * 39)
        self.assertEqual(read_tree(tree_text(deep)), deep)
        wide = knot("W" * 24, *[knot("X", *[sign("abcdef")] * 8, takes=("M" * 24, True)) for count in range(8)])
        self.assertEqual(read_tree(tree_text(wide)), wide)


class Refused(unittest.TestCase):
    def refused(self, text, at):
        with self.assertRaises(NoText, msg=repr(text)) as caught:
            read_tree(text)
        self.assertEqual(caught.exception.at, at, repr(text))

    def test_named_cases(self):
        for text, at in [
            ("", 0), (" ", 0), ("  ", 0), ("a ", 1), (" a", 0), ("a b", 1), ("- -", 1), ("A", 0), ("]", 0), ("[", 1),
            ("[ S", 2), ("[ S ]", 2), ("[ S ?M", 3), ("[ S ?M ]", 3), ("[ S ?M ?M a ]", 3), ("[ S a ?M ]", 3),
            ("[ S a", 3), ("[ S a ] ]", 4), ("[ S a ] a", 4), ("[ S a ] ", 4), ("[ a ]", 1), ("[ ]", 1), ("[ [ S a ] ]", 1),
            ("[ ?M a ]", 1), ("[ S S a ]", 2), ("[ S  a ]", 2), ("[  S a ]", 1), ("[ S a  ]", 3), ("a\n", 0), ("a\t", 0),
            ("\na", 0), ("[ S a ]\n", 3), ("[ S a ]\t", 3), ("[ S\n a ]", 1), ("[\tS a ]", 0), ("[ S a\n]", 2),
            ("[ S ?M\n a ]", 2), ("[ S !m a ]", 2), ("[ S ! a ]", 2), ("+N\n", 0), ("+", 0), ("*", 0), ("+n", 0), ("*1", 0),
            ("abcdefg", 0), ("[S a ]", 0), ("[ S a]", 2), ("?M", 0), ("!M", 0), ("[ S a b c d e f g h i ]", 10),
            ("[ S a b c d e f g h", 10), ("[ S ?M a b c d e f g h i ]", 11), ("[ S a b c d e f g h [ X i ] ]", 10),
            ("[ S a b c d e f g h [", 10), ("[ S a b c d e f g h i", 10), ("[ S [ X - - - - - - - - - ] ]", 12),
            ("[ S [ X a ] [ Y ] ]", 8), ("[ S [ X a ] [ Y", 8), ("( s )", 0), ("top", None), ("void", None),
        ]:
            if at is None:
                self.assertEqual(read_tree(text), ("sign", text))
            else:
                self.refused(text, at)

    def test_each_word_of_each_text_edited(self):
        for text, tree in WRITTEN_TREES:
            for words in edits(text.split(" "), TREE_WORDS + NO_TREE_WORDS):
                # No words at all make no text of their own: joined they are the text without signs.
                near = " ".join(words)
                at = whole_end(tree_end, near.split(" "))
                if at is None:
                    self.assertEqual(tree_text(read_tree(near)), near)
                else:
                    self.refused(near, at)


class Taken(unittest.TestCase):
    def test_from_within_a_list(self):
        words = ["top", "[", "S", "a", "]", "b", "?M", "]", "]"]
        for at, told in [(0, (sign("top"), 1)), (1, (knot("S", A), 5)), (3, (A, 4)), (5, (sign("b"), 6))]:
            self.assertEqual(take_tree(words, at), told)
        for at, fault in [(2, 2), (4, 4), (6, 6), (7, 7), (8, 8), (9, 9)]:
            with self.assertRaises(NoText) as caught:
                take_tree(words, at)
            self.assertEqual(caught.exception.at, fault)
        self.assertEqual(words, ["top", "[", "S", "a", "]", "b", "?M", "]", "]"])

    def test_no_words_left(self):
        for words in [[], ["a"], ["[", "S"]]:
            with self.assertRaises(NoText) as caught:
                take_tree(words, len(words))
            self.assertEqual(caught.exception.at, len(words))

    def test_between_other_words(self):
        for ahead in [[], ["a"], ["[", "S", "["], ["", "]\n", "?M"]]:
            for behind in [[], ["a"], ["]", "]"], ["", "+N"], ["[", "S"]]:
                for text, tree in WRITTEN_TREES:
                    words = ahead + text.split(" ") + behind
                    kept = list(words)
                    self.assertEqual(take_tree(words, len(ahead)), (tree, len(words) - len(behind)))
                    self.assertEqual(words, kept)

    def test_edited_within_a_list(self):
        ahead = ["[", "S", "a"]
        for text, tree in WRITTEN_TREES:
            for near in edits(text.split(" "), TREE_WORDS + NO_TREE_WORDS):
                words = ahead + near
                kept = list(words)
                told, at = tree_end(near)
                if told == "end":
                    taken, after = take_tree(words, len(ahead))
                    self.assertEqual(tree_text(taken), " ".join(near[:at]))
                    self.assertEqual(after, len(ahead) + at)
                else:
                    with self.assertRaises(NoText) as caught:
                        take_tree(words, len(ahead))
                    self.assertEqual(caught.exception.at, len(ahead) + at, words)
                self.assertEqual(words, kept)

    def test_what_is_taken_stays_when_the_words_are_changed(self):
        for text, tree in WRITTEN_TREES:
            words = text.split(" ")
            taken, after = take_tree(words, 0)
            words.clear()
            self.assertEqual(taken, tree)

    def test_each_tree_is_written_as_it_is_taken(self):
        words = tree_text(knot("ALL", *TREES[:8])).split(" ")
        at = 2
        for tree in TREES[:8]:
            taken, at = take_tree(words, at)
            self.assertEqual(taken, tree)
        self.assertEqual(words[at:], ["]"])


if __name__ == "__main__":
    unittest.main()
