"""Starts, grafts, keys, and books of them."""

from graftsay.errors import NoKey, NoTree, Twice
from graftsay.trees import is_name, is_tree, places, signs_of

SMALL_LETTERS = "abcdefghijklmnopqrstuvwxyz"
KEY_LETTERS = "abcdefghijklmnopqrstuvwxyz0123456789"
LONGEST_KEY = 24
MOST_TREES = 400
MOST_PIECES = 60
LONGEST_PLACE = 11


def is_key(text):
    """Whether a text is a key."""
    if not isinstance(text, str) or not 1 <= len(text) <= LONGEST_KEY:
        return False
    return text[0] in SMALL_LETTERS and all(letter in KEY_LETTERS for letter in text)


def is_book(thing):
    """Whether a thing is a book."""
    return is_pair(thing) and is_name(thing[0]) and are_keyed_trees(thing[1])


def is_pair(thing):
    """Whether a thing is a tuple of two."""
    return isinstance(thing, tuple) and len(thing) == 2


def are_keyed_trees(thing):
    """Whether a thing can stand in a book as its trees."""
    if not isinstance(thing, tuple) or not 1 <= len(thing) <= MOST_TREES:
        return False
    seen = set()
    for keyed in thing:
        if not is_keyed_tree(keyed) or keyed[0] in seen:
            return False
        seen.add(keyed[0])
    return True


def is_keyed_tree(thing):
    """Whether a thing is a tuple of a key and of a start or a graft."""
    return is_pair(thing) and is_key(thing[0]) and is_tree(thing[1]) and fault_of(thing[1]) is None


def fault_of(tree):
    """The word for why a tree is neither a start nor a graft; None where it is one."""
    if tree[0] != "knot":
        return "knot"
    if len(feet_of(tree)) > 1:
        return "feet"
    if len(signs_of(tree)) == 0:
        return "sign"
    if is_great(tree):
        return "great"
    return None


def is_great(tree):
    """Whether a tree has too many pieces, or a place of too many numbers."""
    found = places(tree)
    return len(found) > MOST_PIECES or any(len(place) > LONGEST_PLACE for place in found)


def feet_of(tree):
    """The names of a tree's feet, in any order."""
    names = []
    waiting = [tree]
    while waiting:
        piece = waiting.pop()
        if piece[0] == "foot":
            names.append(piece[1])
        if piece[0] == "knot":
            waiting.extend(piece[3])
    return names


def is_graft(tree):
    """Whether a start or a graft is a graft."""
    return len(feet_of(tree)) == 1


def name_of(tree):
    """The name of a start or a graft."""
    names = feet_of(tree)
    return names[0] if names else tree[1]


def tree_of(book, key):
    """The tree of a book that has this key."""
    return dict(book[1])[key]


def made_book(top, trees):
    """The book of a name and a list of tuples of a key and a tree."""
    if len(trees) == 0:
        raise NoKey(0)
    if len(trees) > MOST_TREES:
        raise NoKey(MOST_TREES)
    seen = set()
    for number, (key, tree) in enumerate(trees):
        if not is_key(key):
            raise NoKey(number)
        if key in seen:
            raise Twice(key)
        seen.add(key)
        fault = fault_of(tree)
        if fault is not None:
            raise NoTree(key, fault)
    return (top, tuple([(key, tree) for key, tree in trees]))
