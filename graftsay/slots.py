"""Slots: the places of trees at which others can be put."""

from graftsay.books import is_graft, name_of
from graftsay.trees import piece_at, places


class Slot:
    """A place of a tree at which trees of a family can be put: a tuple of whether they are grafts and their name."""

    def __init__(self, place, family, must):
        self.place = place
        self.family = family
        self.must = must


def family_of(tree):
    """The family of a start or a graft."""
    return (is_graft(tree), name_of(tree))


def slots_of(tree):
    """The slots of a tree, in the order of their places."""
    found = []
    for place in places(tree):
        piece = piece_at(tree, place)
        if piece[0] == "hole":
            found.append(Slot(place, (False, piece[1]), True))
        if piece[0] == "knot" and piece[2] is not None:
            found.append(Slot(place, (True, piece[2][0]), piece[2][1]))
    return found


def slots_by_key(book):
    """The slots of each tree of a book."""
    return {key: slots_of(tree) for key, tree in book[1]}
