"""What plans build."""

from graftsay.books import tree_of
from graftsay.trees import piece_at, put_at, signs_of


def built(book, plan):
    """The tree that a plan of a book builds."""
    return freed(joined(book, plan))


def row_of(book, plan):
    """The row of a plan of a book."""
    return signs_of(built(book, plan))


def joined(book, plan):
    """What a plan builds, but that its knots still tell what they take."""
    key, puts = plan
    tree = tree_of(book, key)
    # From the last place to the first: what is put at one moves only pieces within it, which have been seen to.
    for place, put in reversed(puts):
        tree = put_at(tree, place, set_in(piece_at(tree, place), joined(book, put)))
    return tree


def set_in(piece, other):
    """What stands in the place of a hole or a knot where another tree is put."""
    if piece[0] == "hole":
        return other
    return hung(other, piece)


def hung(tree, knot):
    """The tree with a knot in the place of its foot."""
    if tree[0] == "foot":
        return knot
    if tree[0] == "knot":
        return ("knot", tree[1], tree[2], tuple([hung(kid, knot) for kid in tree[3]]))
    return tree


def freed(tree):
    """The tree with knots that take nothing."""
    if tree[0] == "knot":
        return ("knot", tree[1], None, tuple([freed(kid) for kid in tree[3]]))
    return tree
