"""Books written as lists of texts, and read."""

from graftsay.books import made_book
from graftsay.errors import NoRow, NoText
from graftsay.trees import is_name
from graftsay.words import take_tree, tree_text


def book_rows(book):
    """The texts that write a book."""
    top, trees = book
    return [f"top {top}"] + [f"{key} : {tree_text(tree)}" for key, tree in trees]


def read_book(rows):
    """The book that a list of texts writes."""
    if len(rows) == 0:
        raise NoRow(0)
    top = read_top(rows[0])
    trees = [read_keyed_tree(rows[number], number) for number in range(1, len(rows))]
    return made_book(top, trees)


def read_top(text):
    """The name in the first text of a written book."""
    words = text.split(" ")
    if len(words) != 2 or words[0] != "top" or not is_name(words[1]):
        raise NoRow(0)
    return words[1]


def read_keyed_tree(text, number):
    """The tuple of a word, be it a key or not, and a tree in a later text, whose number it is refused by."""
    words = text.split(" ")
    if words[1:2] != [":"]:
        raise NoRow(number)
    try:
        tree, after = take_tree(words, 2)
    except NoText:
        raise NoRow(number) from None
    if after < len(words):
        raise NoRow(number)
    return (words[0], tree)
