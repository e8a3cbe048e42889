"""A desk that is told rows of words and answers each with a text."""

from graftsay.booktexts import book_rows
from graftsay.books import is_key, made_book
from graftsay.building import row_of
from graftsay.counts import many_read
from graftsay.endless import endless
from graftsay.errors import NoLine, NoText
from graftsay.plans import is_plan
from graftsay.plantexts import plan_text, take_plan
from graftsay.reading import read
from graftsay.sizes import many_of, rows_to
from graftsay.trees import is_name, is_sign
from graftsay.useful import trimmed, useful
from graftsay.words import take_tree

LONGEST_ROW = 12
GREATEST_SIZE = 40
GREATEST_LENGTH = 8


def book_at(desk):
    """The book of a desk, refused where it has none."""
    if desk.book is None:
        raise NoLine("there is no book yet")
    return desk.book


def stand_alone(words):
    """Refuses words behind a first word that has none behind it."""
    if len(words) != 1:
        raise NoLine(f"nothing stands behind {words[0]}")


def signs_behind(words):
    """The row of signs behind a first word."""
    signs = words[1:]
    if len(signs) > LONGEST_ROW or not all(is_sign(word) for word in signs):
        raise NoLine(f"behind {words[0]} stand at most {LONGEST_ROW} signs")
    return tuple(signs)


def count_behind(words, least, most):
    """The number behind a first word."""
    counts = [str(number) for number in range(least, most + 1)]
    if len(words) != 2 or words[1] not in counts:
        raise NoLine(f"behind {words[0]} stands a number from {least} to {most}")
    return int(words[1])


def row_text(row):
    """The signs of a row, parted by blanks, or a word for the row of none."""
    return " ".join(row) if row else "-"


def say_tree(desk, words):
    """Lays a tree behind those laid."""
    if len(words) < 4 or not is_key(words[1]) or words[2] != ":":
        raise NoLine("behind tree stand a key, : and the words of a tree")
    tree, after = take_tree(words, 3)
    if after < len(words):
        raise NoText(after)
    desk.laid.append((words[1], tree))
    return "ok"


def say_top(desk, words):
    """Makes a book of the trees laid."""
    if len(words) != 2 or not is_name(words[1]):
        raise NoLine("behind top stands a name")
    desk.book = made_book(words[1], desk.laid)
    desk.laid = []
    return "ok"


def say_show(desk, words):
    """The texts that write the book."""
    stand_alone(words)
    return " / ".join(book_rows(book_at(desk)))


def say_read(desk, words):
    """A plan of a row."""
    row = signs_behind(words)
    word, told = read(book_at(desk), row)
    return plan_text(told) if word == "plan" else "none"


def say_many(desk, words):
    """How many plans a row has."""
    row = signs_behind(words)
    return str(many_read(book_at(desk), row))


def say_row(desk, words):
    """The row that a plan builds."""
    if len(words) < 2:
        raise NoLine("behind row stand the words of a plan")
    book = book_at(desk)
    plan, after = take_plan(words, 1)
    if after < len(words):
        raise NoText(after)
    return row_text(row_of(book, plan)) if is_plan(book, plan) else "none"


def say_use(desk, words):
    """The keys of the trees of use."""
    stand_alone(words)
    book = book_at(desk)
    built, come, ends, ways = useful(book)
    used = {key: True for key, parent, place in come}
    return row_text([key for key, tree in book[1] if key in used])


def say_trim(desk, words):
    """Leaves the trees of use alone in the book."""
    stand_alone(words)
    desk.book = trimmed(book_at(desk))
    return "ok"


def say_sizes(desk, words):
    """How many whole plans of a size there are."""
    size = count_behind(words, 1, GREATEST_SIZE)
    return str(many_of(book_at(desk), size))


def say_rows(desk, words):
    """The rows up to a length."""
    length = count_behind(words, 0, GREATEST_LENGTH)
    rows = rows_to(book_at(desk), length)
    return " / ".join([row_text(row) for row in rows]) if rows else "none"


def say_end(desk, words):
    """Whether the book's plans end, and their greatest size."""
    stand_alone(words)
    told = endless(book_at(desk))
    return "endless" if told[0] == "endless" else f"bounded {told[1]}"


ANSWERS = {
    "tree": say_tree, "top": say_top, "show": say_show, "read": say_read, "many": say_many, "row": say_row,
    "use": say_use, "trim": say_trim, "sizes": say_sizes, "rows": say_rows, "end": say_end,
}


class Desk:
    """A desk: a book, None at first, and the trees laid for the next one."""

    def __init__(self):
        self.book = None
        self.laid = []

    def say(self, row):
        """The answer to a row."""
        words = row.split(" ")
        if words[0] not in ANSWERS:
            raise NoLine("no row begins so")
        answer = ANSWERS[words[0]]
        return answer(self, words)
