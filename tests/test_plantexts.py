"""Points 2 and 13: plans written and read."""

import unittest

from graftsay.errors import NoText
from graftsay.plantexts import plan_text, read_plan, take_plan
from tests.support import BOUNDED_PLANS, ENDLESS_PLANS, edits, plan_end, whole_end

# Texts and the plans that they write, held against each other by hand; most are of no book.
WRITTEN = [
    ("( a )", ("a", ())),
    ("( top )", ("top", ())),
    ("( " + "z" * 24 + " )", ("z" * 24, ())),
    ("( k1 . ( m ) )", ("k1", (((), ("m", ())),))),
    ("( k1 0 ( m ) )", ("k1", (((0,), ("m", ())),))),
    ("( k1 0.7.3 ( m ) )", ("k1", (((0, 7, 3), ("m", ())),))),
    ("( a . ( b ) 0 ( c ) 0.1 ( d ) 2 ( e ) )",
     ("a", (((), ("b", ())), ((0,), ("c", ())), ((0, 1), ("d", ())), ((2,), ("e", ()))))),
    ("( a 7 ( b ) 0 ( c ) 0 ( c ) . ( a ) . ( a ) )",
     ("a", (((7,), ("b", ())), ((0,), ("c", ())), ((0,), ("c", ())), ((), ("a", ())), ((), ("a", ()))))),
    ("( a . ( b . ( c 1.1 ( d ) ) 2 ( e ) ) 3 ( f ) )",
     ("a", (((), ("b", (((), ("c", (((1, 1), ("d", ())),))), ((2,), ("e", ()))))), ((3,), ("f", ()))))),
    ("( a 0.1.2.3.4.5.6.7.0.1.2 ( b ) )", ("a", (((0, 1, 2, 3, 4, 5, 6, 7, 0, 1, 2), ("b", ())),))),
    ("( a 0.0.0.0.0.0.0.0.0.0.0.0.0 ( b ) )", ("a", (((0,) * 13, ("b", ())),))),
]
PLAN_WORDS = ["(", ")", "a", "k2", ".", "0", "7.7", "0.1.2"]
NO_PLAN_WORDS = [
    "", "8", "9", "10", "00", "01", "0.8", "0.", ".0", "..", "0..1", "0.10", "0.01", "-1", "0,1", "0.a", "+1", "1\n", ".\n",
    "0.1\t", "a\n", "a\t", "(\n", ")\n", "\t)", "((", "))", "()", "(a", "a)", "A", "aB", "a-", "1a", "a" * 25, "[", "]", "-",
    ":", "+N", "*N", "?M", "!M", "S", "~", "_", "0.1.", "a.0", "None",
]


class Written(unittest.TestCase):
    def test_plans_written(self):
        for text, plan in WRITTEN:
            self.assertEqual(plan_text(plan), text)

    def test_plans_read(self):
        for text, plan in WRITTEN:
            told = read_plan(text)
            self.assertEqual(told, plan)
            self.assertEqual(repr(told), repr(plan))

    def test_plans_of_books(self):
        for plan in BOUNDED_PLANS + ENDLESS_PLANS:
            text = plan_text(plan)
            self.assertEqual(whole_end(plan_end, text.split(" ")), None)
            self.assertEqual(repr(read_plan(text)), repr(plan))

    def test_deep_and_long_plans(self):
        deep = ("a", ())
        for count in range(19):
            deep = ("a", (((), deep),))
        text = "( a . " * 19 + "( a )" + " )" * 19
        self.assertEqual(plan_text(deep), text)
        self.assertEqual(read_plan(text), deep)
        wide = ("a", (((0, 1), ("b", ())),) * 199)
        text = "( a" + " 0.1 ( b )" * 199 + " )"
        self.assertEqual(plan_text(wide), text)
        self.assertEqual(read_plan(text), wide)


class Refused(unittest.TestCase):
    def refused(self, text, at):
        with self.assertRaises(NoText, msg=repr(text)) as caught:
            read_plan(text)
        self.assertEqual(caught.exception.at, at, repr(text))

    def test_named_cases(self):
        for text, at in [
            ("", 0), (" ", 0), ("a", 0), (")", 0), ("(", 1), ("( ", 1), ("( )", 1), ("( a", 2), ("( A )", 1), ("( 1 )", 1),
            ("( . )", 1), ("( ( a ) )", 1), ("( a ) ", 3), ("( a ) )", 3), ("( a ) ( a )", 3), ("( a )\n", 2), ("( a )\t", 2),
            ("\n( a )", 0), ("( a\n )", 1), ("(  a )", 1), ("( a  )", 2), (" ( a )", 0), ("(a )", 0), ("( a)", 1),
            ("( a b )", 2), ("( a ( b ) )", 2), ("( a .", 3), ("( a . )", 3), ("( a . b )", 3), ("( a . . ( b ) )", 3),
            ("( a . ( b )", 6), ("( a . ( b ) 0", 7), ("( a . ( b ) ( c ) )", 6), ("( a . ( b ) c )", 6), ("( a . (", 4),
            ("( a . ( b", 5), ("( a 8 ( b ) )", 2), ("( a 0.8 ( b ) )", 2), ("( a 00 ( b ) )", 2), ("( a 01 ( b ) )", 2),
            ("( a 10 ( b ) )", 2), ("( a -1 ( b ) )", 2), ("( a 0. ( b ) )", 2), ("( a .0 ( b ) )", 2), ("( a .. ( b ) )", 2),
            ("( a 0..1 ( b ) )", 2), ("( a 0,1 ( b ) )", 2), ("( a .\n ( b ) )", 2), ("( a 0\t ( b ) )", 2),
            ("( a 0 1 ( b ) )", 3), ("[ S a ]", 0), ("( " + "a" * 25 + " )", 1),
        ]:
            self.refused(text, at)

    def test_each_word_of_each_text_edited(self):
        for text, plan in WRITTEN:
            for words in edits(text.split(" "), PLAN_WORDS + NO_PLAN_WORDS):
                near = " ".join(words)
                at = whole_end(plan_end, near.split(" "))
                if at is None:
                    self.assertEqual(plan_text(read_plan(near)), near)
                else:
                    self.refused(near, at)


class Taken(unittest.TestCase):
    def test_from_within_a_list(self):
        words = ["a", "(", "a", "0.1", "(", "b", ")", ")", ")", "."]
        kept = list(words)
        for at, told in [(1, (("a", (((0, 1), ("b", ())),)), 8)), (4, (("b", ()), 7))]:
            self.assertEqual(take_plan(words, at), told)
        for at in [0, 2, 3, 5, 6, 7, 8, 9, 10]:
            with self.assertRaises(NoText) as caught:
                take_plan(words, at)
            self.assertEqual(caught.exception.at, at)
        self.assertEqual(words, kept)

    def test_no_words_left(self):
        for words in [[], ["("], ["(", "a", ")"]]:
            with self.assertRaises(NoText) as caught:
                take_plan(words, len(words))
            self.assertEqual(caught.exception.at, len(words))

    def test_between_other_words(self):
        for ahead in [[], ["a"], ["(", "a", "0"], ["", ")\n", "S"]]:
            for behind in [[], ["a"], [")", ")"], ["", "."], ["(", "a"]]:
                for text, plan in WRITTEN:
                    words = ahead + text.split(" ") + behind
                    kept = list(words)
                    self.assertEqual(take_plan(words, len(ahead)), (plan, len(words) - len(behind)))
                    self.assertEqual(words, kept)

    def test_edited_within_a_list(self):
        ahead = ["(", "a", "0"]
        for text, plan in WRITTEN:
            for near in edits(text.split(" "), PLAN_WORDS + NO_PLAN_WORDS):
                words = ahead + near
                kept = list(words)
                told, at = plan_end(near)
                if told == "end":
                    taken, after = take_plan(words, len(ahead))
                    self.assertEqual(plan_text(taken), " ".join(near[:at]))
                    self.assertEqual(after, len(ahead) + at)
                else:
                    with self.assertRaises(NoText) as caught:
                        take_plan(words, len(ahead))
                    self.assertEqual(caught.exception.at, len(ahead) + at, words)
                self.assertEqual(words, kept)

    def test_what_is_taken_stays_when_the_words_are_changed(self):
        for text, plan in WRITTEN:
            words = text.split(" ")
            taken, after = take_plan(words, 0)
            words.clear()
            self.assertEqual(taken, plan)


if __name__ == "__main__":
    unittest.main()
