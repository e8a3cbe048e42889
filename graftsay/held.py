"""Books held against walkers: books of those plans alone whose rows a walker takes."""

from graftsay.books import is_graft
from graftsay.dresses import dresses_of
from graftsay.naming import keyed, name_for

MOST_DRESSES = 400
TOP = "TOP"


def held(book, walker):
    """The book whose whole plans are those that are taken, and for each key the elder one; None where none is taken."""
    dresses = dresses_of(book, walker, MOST_DRESSES)
    if not dresses:
        return None
    trees = dict(book[1])
    names = {}
    made = keyed([dressed_tree(names, trees[dress[0]], dress) for dress in dresses])
    keys = [(key, dress[0]) for (key, tree), dress in zip(made, dresses)]
    return ((TOP, made), keys)


def dressed_tree(names, tree, dress):
    """The tree of a dress: its names tell the states, so that only what goes on as it should can be put there."""
    key, own, marks = dress
    pairs = {(place, done): (ahead, behind) for place, done, ahead, behind in marks}
    word, name, takes, kids = dressed_piece(names, pairs, (), tree)
    if not is_graft(tree):
        # Whichever state they end in, whole plans' own trees bear one name, and no other tree bears it.
        name = TOP if own else start_name(names, tree[1], pairs[((), True)])
    return (word, name, takes, kids)


def start_name(names, name, pair):
    """The name of starts of a name that go between a pair of states."""
    return name_for(names, (False, name) + pair)


def graft_name(names, name, outer, inner):
    """The name of grafts of a name that go between a pair of states, but for what is between another at their foot."""
    return name_for(names, (True, name) + outer + inner)


def dressed_piece(names, pairs, place, piece):
    """A piece with names that tell the states of its holes, its foot and what its knots take."""
    if piece[0] == "hole":
        return ("hole", start_name(names, piece[1], pairs[(place, True)]))
    if piece[0] == "foot":
        return ("foot", graft_name(names, piece[1], pairs[((), True)], pairs[(place, True)]))
    if piece[0] != "knot":
        return piece
    word, name, takes, kids = piece
    made = tuple([dressed_piece(names, pairs, place + (number,), kid) for number, kid in enumerate(kids)])
    if takes is None:
        return (word, name, None, made)
    outer = pairs[(place, True)]
    inner = pairs[(place, False)]
    # Where the states differ, something has been put there.
    return (word, name, (graft_name(names, takes[0], outer, inner), takes[1] or outer != inner), made)
