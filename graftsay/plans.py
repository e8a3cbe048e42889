"""Plans: which trees of a book are put into which."""

from graftsay.books import is_graft, name_of, tree_of
from graftsay.kinds import are_whole_numbers
from graftsay.trees import piece_at, places


def takers(book, piece):
    """The keys of the trees that can be put at a piece, in the book's order."""
    return [key for key, tree in book[1] if can_be_put(tree, piece)]


def can_be_put(tree, piece):
    """Whether a book's tree can be put at a piece."""
    if piece[0] == "hole":
        return not is_graft(tree) and name_of(tree) == piece[1]
    if piece[0] == "knot" and piece[2] is not None:
        return is_graft(tree) and name_of(tree) == piece[2][0]
    return False


def is_plan(book, thing):
    """Whether a thing is a plan of a book."""
    return is_plan_of(dict(book[1]), thing)


def is_plan_of(trees, thing):
    """Whether a thing is a plan of the trees of a book, by their keys."""
    if not is_keyed(thing) or thing[0] not in trees:
        return False
    tree = trees[thing[0]]
    puts = thing[1]
    if not are_placed(puts) or not stand_as_due(tree, [place for place, plan in puts]):
        return False
    for place, plan in puts:
        if not is_plan_of(trees, plan) or not can_be_put(trees[plan[0]], piece_at(tree, place)):
            return False
    return True


def is_keyed(thing):
    """Whether a thing is a tuple of a text and one thing more."""
    return isinstance(thing, tuple) and len(thing) == 2 and isinstance(thing[0], str)


def are_placed(thing):
    """Whether a thing is a tuple of tuples of a place, be it a tree's or not, and one thing more."""
    if not isinstance(thing, tuple):
        return False
    # A truth equals a number, so that it would pass as one where places are held against each other.
    return all(isinstance(put, tuple) and len(put) == 2 and are_whole_numbers(put[0]) for put in thing)


def stand_as_due(tree, put_places):
    """Whether places are a tree's, rise, stand once each, and leave none out where something must be put."""
    return put_places == [
        place for place in places(tree)
        if place in put_places or must_take(piece_at(tree, place))
    ]


def must_take(piece):
    """Whether something must be put at a piece."""
    if piece[0] == "knot":
        return piece[2] is not None and piece[2][1]
    return piece[0] == "hole"


def is_whole(book, plan):
    """Whether a plan of a book is a whole one."""
    tree = tree_of(book, plan[0])
    return not is_graft(tree) and name_of(tree) == book[0]


def size_of(plan):
    """How many keys a plan has, each as often as it stands."""
    return 1 + sum([size_of(put) for place, put in plan[1]])
