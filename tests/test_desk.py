"""Points 2, 3, 4 and 30: the desk."""

import re
import time
import unittest

from graftsay.booktexts import book_rows
from graftsay.books import made_book
from graftsay.counts import many_read
from graftsay.desk import Desk
from graftsay.endless import endless
from graftsay.errors import GraftError, NoKey, NoLine, NoPlan, NoText, NoTree, TooMany, Twice
from graftsay.plans import is_plan, is_whole
from graftsay.plantexts import read_plan
from graftsay.sizes import many_of, rows_to
from graftsay.useful import trimmed, useful
from graftsay.words import read_tree
from tests.support import (
    BOUNDED, BOUNDED_ROWS, DENSE, ENDLESS, ROUNDS, TREE_WORDS, book_fault, chain_of, edits, fault_told, plan_end, row_in,
    rows_and_plans, tree_end, whole_end,
)

NAME, KEY, SIGN = "[A-Z][A-Z0-9]{0,23}", "[a-z][a-z0-9]{0,23}", "[a-z]{1,6}"
# The rows that are rows by their words, but for what 7 and 13 say of WORDS and PLAN.
KINDS = {
    "tree": f"tree {KEY} : .*", "top": f"top {NAME}", "show": "show", "read": f"read( {SIGN}){{0,12}}",
    "many": f"many( {SIGN}){{0,12}}", "row": "row .*", "use": "use", "trim": "trim",
    "sizes": "sizes ([1-9]|[1-3][0-9]|40)", "rows": "rows [0-8]", "end": "end",
}
NEED_BOOK = ["show", "read", "many", "row", "use", "trim", "sizes", "rows", "end"]


def kind_of(row):
    """The first word of a row that is one by its words, None for others."""
    for word, pattern in KINDS.items():
        if re.fullmatch(pattern, row, re.DOTALL):
            return word
    return None


class Model:
    """What a desk is told to do, by the point's words."""

    def __init__(self):
        self.book = None
        self.laid = []

    def verdict(self, row):
        """("text", a text, or None where any will do), or a tuple of a refusal's name and fields; changes the model."""
        kind = kind_of(row)
        words = row.split(" ")
        if kind is None or kind in NEED_BOOK and self.book is None:
            return ("NoLine",)
        if kind == "tree":
            return self.lay(words)
        if kind == "top":
            fault = book_fault(self.laid)
            if fault:
                return fault
            self.book, self.laid = (words[1], tuple(self.laid)), []
            return ("text", "ok")
        return getattr(self, kind)(words)

    def lay(self, words):
        at = whole_end(tree_end, words[3:])
        if at is not None:
            return ("NoText", at + 3)
        self.laid.append((words[1], read_tree(" ".join(words[3:]))))
        return ("text", "ok")

    def show(self, words):
        return ("text", " / ".join(book_rows(self.book)))

    def read(self, words):
        return ("text", None if many_read(self.book, tuple(words[1:])) else "none")

    def many(self, words):
        return ("text", str(many_read(self.book, tuple(words[1:]))))

    def row(self, words):
        at = whole_end(plan_end, words[1:])
        if at is not None:
            return ("NoText", at + 1)
        plan = read_plan(" ".join(words[1:]))
        return ("text", " ".join(row_in(self.book, plan)) if is_plan(self.book, plan) else "none")

    def use(self, words):
        used = [key for key, parent, place in useful(self.book)[1]]
        return ("text", " ".join(key for key, tree in self.book[1] if key in used) or "-")

    def trim(self, words):
        if not useful(self.book)[1]:
            return ("NoPlan",)
        self.book = trimmed(self.book)
        return ("text", "ok")

    def sizes(self, words):
        return ("text", str(many_of(self.book, int(words[1]))))

    def rows(self, words):
        try:
            rows = rows_to(self.book, int(words[1]))
        except TooMany:
            return ("TooMany", 1000)
        return ("text", " / ".join(" ".join(row) or "-" for row in rows) or "none")

    def end(self, words):
        if not useful(self.book)[1]:
            return ("NoPlan",)
        told = endless(self.book)
        return ("text", "endless" if told[0] == "endless" else "bounded " + str(told[1]))


FIELDS = {"NoText": ["at"], "TooMany": ["most"], "NoLine": [], "NoPlan": []}


def told_by(desk, row):
    """The text that a desk answers with, or a refusal's name and fields, as a model tells it."""
    try:
        return ("text", desk.say(row))
    except GraftError as error:
        name = type(error).__name__
        if name in FIELDS:
            return (name,) + tuple(getattr(error, field) for field in FIELDS[name])
        return fault_told(error)


def laid_rows(book):
    """The rows that make a desk have a book."""
    rows = book_rows(book)
    return ["tree " + row for row in rows[1:]] + rows[:1]


def desk_of(book):
    desk = Desk()
    for row in laid_rows(book):
        desk.say(row)
    return desk


class Checked(unittest.TestCase):
    def check(self, desk, model, row):
        due = model.verdict(row)
        told = told_by(desk, row)
        if due == ("text", None):
            self.assertEqual(told[0], "text")
            plan = read_plan(told[1])
            self.assertIs(is_plan(model.book, plan), True)
            self.assertIs(is_whole(model.book, plan), True)
            self.assertEqual(row_in(model.book, plan), tuple(row.split(" ")[1:]))
        else:
            self.assertEqual(repr(told), repr(due), row)
        if told[0] == "text":
            self.assertIs(type(told[1]), str)
        return told

    def refused(self, desk, row, error, **fields):
        with self.assertRaises(error) as caught:
            desk.say(row)
        self.assertIs(type(caught.exception), error)
        self.assertIsInstance(caught.exception, GraftError)
        self.assertIsInstance(caught.exception, ValueError)
        for name, value in fields.items():
            self.assertEqual(repr(getattr(caught.exception, name)), repr(value), row)


class Answers(Checked):
    def test_by_hand(self):
        desk = Desk()
        for row, answer in [
            ("tree s : [ S a [ X ?M +N ] b ]", "ok"), ("tree n : [ N c ]", "ok"), ("tree m : [ X d *M e ]", "ok"),
            ("tree idle : [ Q a ]", "ok"), ("top S", "ok"),
            ("show", "top S / s : [ S a [ X ?M +N ] b ] / n : [ N c ] / m : [ X d *M e ] / idle : [ Q a ]"),
            ("read a c b", "( s 1.0 ( n ) )"), ("read a d c e b", "( s 1 ( m ) 1.0 ( n ) )"), ("read a b", "none"), ("read", "none"),
            ("many a c b", "1"), ("many a", "0"), ("many", "0"), ("row ( s 1.0 ( n ) )", "a c b"), ("row ( m )", "d e"),
            ("row ( s )", "none"), ("row ( zz )", "none"), ("row ( s 1.0 ( n ) 1 ( m ) )", "none"), ("use", "s n m"),
            ("sizes 1", "0"), ("sizes 2", "1"), ("sizes 3", "1"), ("sizes 40", "0"), ("rows 0", "none"), ("rows 2", "none"),
            ("rows 3", "a c b"), ("rows 8", "a c b / a d c e b"), ("end", "bounded 3"), ("trim", "ok"),
            ("show", "top S / s : [ S a [ X ?M +N ] b ] / n : [ N c ] / m : [ X d *M e ]"), ("use", "s n m"), ("trim", "ok"),
            ("tree s : [ S a ]", "ok"), ("read a c b", "( s 1.0 ( n ) )"), ("tree t : [ S ?M b b ]", "ok"), ("tree m : [ X ?M *M a ]", "ok"),
            ("end", "bounded 3"), ("top S", "ok"), ("end", "endless"), ("read a c b", "none"), ("rows 2", "a / b b"),
            ("many b b a a a", "1"), ("sizes 1", "2"), ("use", "s t m"),
        ]:
            self.assertEqual(desk.say(row), answer, row)
            self.assertIs(type(desk.say("show") if row == "show" else answer), str)

    def test_a_book_of_each_kind(self):
        for book in [BOUNDED, ENDLESS, DENSE, ("N", BOUNDED[1])] + ROUNDS:
            desk, model = Desk(), Model()
            rows = laid_rows(book) + ["show", "use", "end", "read", "many"]
            rows += [f"sizes {size}" for size in range(0, 43)] + [f"rows {length}" for length in range(0, 10)]
            for signs in [*list(rows_and_plans(book, 4, 10 ** 5))[:12], ("a",), ("c", "a"), ("a",) * 12, ("a",) * 13]:
                rows += ["read " + " ".join(signs), "many " + " ".join(signs)]
            rows += ["trim", "show", "use", "end", "trim", "tree x : [ S a ]", "show", "top S", "show", "end"]
            for row in rows:
                self.check(desk, model, row)

    def test_books_as_written(self):
        desk = Desk()
        for row in BOUNDED_ROWS[1:]:
            self.assertEqual(desk.say("tree " + row), "ok")
        self.assertEqual(desk.say(BOUNDED_ROWS[0]), "ok")
        self.assertEqual(desk.say("show"), " / ".join(BOUNDED_ROWS))

    def test_plans(self):
        desk, model = Desk(), Model()
        for row in laid_rows(ENDLESS):
            self.check(desk, model, row)
        for row in rows_and_plans(ENDLESS, 12):
            signs = " ".join(row)
            self.assertEqual(self.check(desk, model, "row " + desk.say("read " + signs)), ("text", signs))
        for text in [
            "( s )", "( g )", "( h )", "( h 0 ( s ) )", "( s 1 ( g ) )", "( s 1 ( s ) )", "( s 0 ( g ) )", "( s 1 ( g 1 ( h 0 ( s ) ) ) )",
            "( x )", "( s 7 ( g ) )", "( s . ( g ) )", "( s 1 ( g ) 1 ( g ) )", "( h 0 ( s ) . ( g ) )", "( h . ( g ) 0 ( s ) )",
        ]:
            self.check(desk, model, "row " + text)

    def test_great_numbers(self):
        began = time.monotonic()
        desk = desk_of(DENSE)
        self.assertEqual(desk.say("many" + " a" * 12), str(many_read(DENSE, ("a",) * 12)))
        self.assertEqual(desk.say("sizes 40"), str(many_of(DENSE, 40)))
        chain = chain_of(400)
        desk = desk_of(chain)
        self.assertEqual(desk.say("end"), "bounded 400")
        self.assertEqual(desk.say("use"), " ".join("k" + str(number) for number in range(400)))
        self.assertEqual(desk.say("trim"), "ok")
        self.assertEqual(desk.say("show"), " / ".join(book_rows(chain)))
        wide = Desk()
        for number in range(400):
            holes = " ".join(["[ X " + " ".join([f"+N{number + 1}"] * 7) + " ]"] * 6) if number < 399 else "-"
            wide.say(f"tree k{number} : [ N{number} a {holes} ]")
        wide.say("top N0")
        self.assertEqual(wide.say("end"), "bounded " + str(sum(42 ** number for number in range(400))))
        self.assertLess(time.monotonic() - began, 60)

    def test_asked_again(self):
        for book in [BOUNDED, DENSE, ROUNDS[2]]:
            first, second = desk_of(book), desk_of(book)
            for row in ["read a a a", "read b b", "many a a", "use", "end", "sizes 5", "rows 4", "show"]:
                self.assertEqual(first.say(row), second.say(row))
                self.assertEqual(first.say(row), second.say(row))


class Refusals(Checked):
    ROWS = [
        "tree k : [ S a ]", "tree k1 : a", "tree k : [ S ?M [ X !M +N *M ] - ]", "top S", "top TOP1", "show", "read", "read a", "read a b ab",
        "read" + " a" * 12, "many", "many a b", "many" + " a" * 12, "row ( s )", "row ( s 1.0 ( n ) . ( m ) )", "use", "trim",
        "sizes 1", "sizes 40", "sizes 9", "rows 0", "rows 8", "end",
    ]
    WORDS = TREE_WORDS + [
        "", ":", "k", "K", "tree", "top", "read", "row", "rows", "sizes", "many", "show", "use", "trim", "end", "0", "1", "00", "01", "9", "40",
        "41", "(", ")", ".", "s", "a\n", "\n", "abcdefg", "/",
    ]

    def test_rows_with_faults(self):
        for first in [[], laid_rows(ENDLESS)]:
            for row in self.ROWS:
                for words in edits(row.split(" "), self.WORDS):
                    desk, model = Desk(), Model()
                    for other in first:
                        desk.say(other)
                        model.verdict(other)
                    self.check(desk, model, " ".join(words))

    def test_first_words(self):
        for row in ["", " ", "  ", "Show", "SHOW", "shows", "sho", "show ", " show", "show\n", "\tshow", "help", "quit", "tree\nk : a", "tops S",
                    "reads a", "ok", "none", "-", "( s )", "[ S a ]", "top\tS", "None", "book"]:
            for desk in [Desk(), desk_of(ENDLESS)]:
                self.refused(desk, row, NoLine)

    def test_no_book(self):
        for row in ["show", "read", "read a", "many", "many a", "row ( s )", "use", "trim", "sizes 1", "rows 0", "end"]:
            desk = Desk()
            self.refused(desk, row, NoLine)
            desk.say("tree s : [ S a ]")
            # Trees that are laid are no book yet.
            self.refused(desk, row, NoLine)
            self.refused(desk, "top s", NoLine)
            self.refused(desk, row, NoLine)
        # That goes first.
        desk = Desk()
        for row in ["row (", "row ", "row ( s ) )", "read A", "sizes 0"]:
            self.refused(desk, row, NoLine)

    def test_counts(self):
        desk = desk_of(ENDLESS)
        for word, least, most in [("sizes", 1, 40), ("rows", 0, 8)]:
            for number in range(-3, 60):
                if least <= number <= most:
                    self.assertIs(type(desk.say(f"{word} {number}")), str)
                else:
                    self.refused(desk, f"{word} {number}", NoLine)
            for count in ["", " ", "00", "01", "08", "040", "1 ", " 1", "1 1", "1.0", "+1", "-0", "-1", "a", "one", "1a", "0x1", "1_0", "1e1", "\n1",
                          "1\n", "1\t", "9" * 3900, "0" * 3900 + "1", "(", "N", "None", "True"]:
                self.refused(desk, f"{word} {count}", NoLine)
            self.refused(desk, word, NoLine)

    def test_signs(self):
        for word in ["read", "many"]:
            desk = desk_of(ENDLESS)
            for count in range(13):
                self.assertIs(type(desk.say(word + " a" * count)), str)
            for count in [13, 14, 100, 1900]:
                self.refused(desk, word + " a" * count, NoLine)
            for sign in ["", "A", "abcdefg", "a1", "a\n", "-", "+N", "1", "[", "a  b", " a", "a "]:
                self.refused(desk, f"{word} {sign}", NoLine)
                self.refused(desk, f"{word} a {sign}", NoLine)
                self.refused(desk, f"{word} {sign} a", NoLine)
            self.assertIs(type(desk.say(word + " abcdef")), str)

    def test_trees(self):
        desk = Desk()
        for row in ["tree", "tree ", "tree k", "tree k ", "tree k :", "tree : a", "tree k a", "tree k a :", "tree K : a", "tree 1k : a", "tree k k : a",
                    "tree  : a", "tree k :a", "tree k: a", "tree k ; a", "tree " + "k" * 25 + " : a", "tree k\n : a"]:
            self.refused(desk, row, NoLine)
        for row, at in [
            ("tree k : ", 3), ("tree k : A", 3), ("tree k :  a", 3), ("tree k : a a", 4), ("tree k : a ", 4), ("tree k : [", 4), ("tree k : [ S", 5),
            ("tree k : [ S a", 6), ("tree k : [ S ]", 5), ("tree k : [ S ?M ]", 6), ("tree k : [ S a ] ]", 7), ("tree k : [ s a ]", 4),
            ("tree k : :", 3), ("tree k : [ S a ?M ]", 6), ("tree k : [ S" + " a" * 9 + " ]", 13),
        ]:
            self.refused(desk, row, NoText, at=at)
        self.refused(desk, "top S", NoKey, number=0)
        self.assertEqual(desk.say("tree " + "k" * 24 + " : [ S a ]"), "ok")
        self.assertEqual(desk.say("top S"), "ok")

    def test_plans(self):
        desk = desk_of(ENDLESS)
        self.refused(desk, "row", NoLine)
        for row, at in [
            ("row ", 1), ("row s", 1), ("row (", 2), ("row ( ", 2), ("row ( S )", 2), ("row ( s", 3), ("row ( s 8 ( g ) )", 3), ("row ( s 1 g )", 4),
            ("row ( s ) )", 4), ("row ( s ) ", 4), ("row  ( s )", 1), ("row ( s 1 ( g ) ( g ) )", 7), ("row a b", 1), ("row ( s 1. ( g ) )", 3),
        ]:
            self.refused(desk, row, NoText, at=at)
            self.refused(Desk(), row, NoLine)

    def test_top(self):
        for row in ["top", "top ", "top s", "top S ", "top  S", "top S S", "top 1S", "top " + "S" * 25, "top S\n", "top -", "top +S"]:
            for desk in [Desk(), desk_of(ENDLESS)]:
                self.refused(desk, row, NoLine)
                desk.say("tree k : [ S a ]")
                self.refused(desk, row, NoLine)

    def test_books_refused(self):
        good, other = "tree k : [ S a ]", "tree l : [ S b ]"
        for rows, error, fields in [
            ([], NoKey, {"number": 0}),
            ([good, good], Twice, {"key": "k"}),
            ([good, "tree x : a", "tree x : a"], NoTree, {"key": "x", "word": "knot"}),
            (["tree x : [ S a *M *M ]"], NoTree, {"key": "x", "word": "feet"}),
            ([good, other, "tree x : [ S - ]"], NoTree, {"key": "x", "word": "sign"}),
            (["tree x : " + "[ S " * 12 + "a" + " ]" * 12], NoTree, {"key": "x", "word": "great"}),
            ([f"tree k{number} : [ S a ]" for number in range(401)], NoKey, {"number": 400}),
        ]:
            for before in [None, ENDLESS]:
                desk = desk_of(before) if before else Desk()
                shown = desk.say("show") if before else None
                for row in rows:
                    self.assertEqual(desk.say(row), "ok")
                for count in range(2):
                    # The trees laid stay: it is refused again, and so with one more.
                    self.refused(desk, "top S", error, **fields)
                    if before:
                        self.assertEqual(desk.say("show"), shown)
                    else:
                        self.refused(desk, "show", NoLine)
                if rows:
                    desk.say("tree z : [ S a ]")
                    self.refused(desk, "top S", error, **fields)

    def test_four_hundred_trees(self):
        desk = Desk()
        for number in range(400):
            desk.say(f"tree k{number} : [ S a ]")
        self.assertEqual(desk.say("top S"), "ok")
        self.assertEqual(desk.say("sizes 1"), "400")
        self.refused(desk, "top S", NoKey, number=0)
        self.assertEqual(desk.say("many a"), "400")

    def test_no_plan(self):
        for book in [ROUNDS[3], ROUNDS[4], ("Q", ENDLESS[1])]:
            desk = desk_of(book)
            shown = desk.say("show")
            for row in ["trim", "end"]:
                self.refused(desk, row, NoPlan)
                self.assertEqual(desk.say("show"), shown)
            self.assertEqual([desk.say(row) for row in ["use", "rows 8", "sizes 3", "read a", "many a"]], ["-", "none", "0", "none", "0"])

    def test_too_many_rows(self):
        desk = Desk()
        for number, sign in enumerate("abc"):
            desk.say(f"tree k{number} : [ S {sign} +S ]")
            desk.say(f"tree l{number} : [ S {sign} ]")
        desk.say("top S")
        self.assertEqual(desk.say("rows 2"), "a / b / c / a a / a b / a c / b a / b b / b c / c a / c b / c c")
        self.assertEqual(desk.say("rows 5").count("/"), 362)
        for length in [6, 7, 8]:
            self.refused(desk, f"rows {length}", TooMany, most=1000)
        self.assertEqual(desk.say("sizes 6"), str(3 ** 6))


class Keeping(Checked):
    def test_what_is_refused_changes_nothing(self):
        desk = Desk()
        wrong = ["tree k : [", "tree K : a", "top s", "show x", "read A", "row (", "sizes 0", "rows 9", "end x", "", "use x", "trim x"]
        for row in laid_rows(BOUNDED):
            for other in wrong + ["top S"] * (row.startswith("tree s")):
                with self.assertRaises(GraftError):
                    desk.say(other)
            self.assertEqual(desk.say(row), "ok")
        for other in wrong + ["top S"]:
            with self.assertRaises(GraftError):
                desk.say(other)
            self.assertEqual(desk.say("show"), " / ".join(book_rows(BOUNDED)))

    def test_trees_laid_stay_while_a_book_is_used(self):
        desk = desk_of(ENDLESS)
        desk.say("tree x : [ S b ]")
        for row in ["show", "read a", "many a", "use", "trim", "sizes 2", "rows 3", "end", "row ( s )"]:
            desk.say(row)
        desk.say("tree y : [ S c +S ]")
        self.assertEqual(desk.say("top S"), "ok")
        self.assertEqual(desk.say("show"), "top S / x : [ S b ] / y : [ S c +S ]")
        self.refused(desk, "top S", NoKey, number=0)
        self.assertEqual(desk.say("show"), "top S / x : [ S b ] / y : [ S c +S ]")

    def test_two_desks_keep_apart(self):
        one, other = Desk(), Desk()
        one.say("tree s : [ S a ]")
        self.refused(other, "top S", NoKey, number=0)
        one.say("top S")
        self.refused(other, "show", NoLine)
        other.say("tree s : [ S b ]")
        other.say("tree t : [ T b ]")
        self.refused(one, "top S", NoKey, number=0)
        other.say("top S")
        self.assertEqual(one.say("show"), "top S / s : [ S a ]")
        self.assertEqual(other.say("trim"), "ok")
        self.assertEqual(other.say("show"), "top S / s : [ S b ]")
        self.assertEqual((one.say("read a"), other.say("read a")), ("( s )", "none"))
        third = Desk()
        self.refused(third, "show", NoLine)

    def test_books_told_elsewhere_are_not_changed(self):
        before = repr(ENDLESS)
        desk = desk_of(ENDLESS)
        for row in ["trim", "tree x : [ S a ]", "top S"]:
            desk.say(row)
        self.assertEqual(repr(ENDLESS), before)
        self.assertEqual(made_book("S", list(ENDLESS[1])), ENDLESS)


if __name__ == "__main__":
    unittest.main()
