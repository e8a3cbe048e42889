"""Books whose grafts are all put in from one side, and the same without grafts."""

from graftsay.books import is_graft
from graftsay.errors import TooMany, TwoSided
from graftsay.naming import keyed, name_for
from graftsay.slots import family_of, slots_of
from graftsay.useful import useful

MOST_TREES = 400


def one_sided(book):
    """Whether each graft's foot is behind all its other leaves."""
    return not two_sided_keys(book)


def two_sided_keys(book):
    """The keys of the grafts whose foot isn't behind all other leaves."""
    return [key for key, tree in book[1] if is_graft(tree) and last_leaf(tree)[0] != "foot"]


def last_leaf(tree):
    """The last leaf of a tree, from left to right."""
    piece = tree
    while piece[0] == "knot":
        piece = piece[3][-1]
    return piece


def without_grafts(book):
    """A book without grafts that has as many whole plans for each row; None where it has no whole plan."""
    wrong = two_sided_keys(book)
    if wrong:
        raise TwoSided(wrong[0])
    if sum([many_choices(tree) for key, tree in book[1]]) > MOST_TREES:
        raise TooMany(MOST_TREES)
    built, come, ends, ways = useful(book)
    if not come:
        return None
    names = {}
    made = [renamed(names, tree, choice) for key, tree in book[1] for choice in choices_of(names, tree)]
    return (name_for(names, (False, book[0])), keyed(made))


def many_choices(tree):
    """In how many ways something is put or not at the knots of a tree that may take something."""
    many = 1
    for slot in slots_of(tree):
        if not slot.must:
            many = many * 2
    return many


def choices_of(names, piece):
    """All that a piece becomes: a hole ahead of a knot's kids stands for what is put there, for it adds signs ahead."""
    if piece[0] == "hole":
        return [("hole", name_for(names, (False, piece[1])))]
    if piece[0] == "foot":
        return [("void",)]
    if piece[0] != "knot":
        return [piece]
    rows = [()]
    for kid in piece[3]:
        options = choices_of(names, kid)
        rows = [row + (option,) for row in rows for option in options]
    return [("knot", piece[1], None, row) for row in with_holes(names, piece[2], rows)]


def with_holes(names, takes, rows):
    """The rows of a knot's kids with a hole ahead for what it takes, and without it where it need not take anything."""
    if takes is None:
        return rows
    hole = ("hole", name_for(names, (True, takes[0])))
    taking = [(hole, *row) for row in rows]
    return taking if takes[1] else rows + taking


def renamed(names, tree, choice):
    """What a tree has become, with the name of the starts that stand for the tree's family."""
    word, name, takes, kids = choice
    return (word, name_for(names, family_of(tree)), takes, kids)
