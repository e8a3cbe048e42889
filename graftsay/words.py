"""Trees written by words, and read."""

from graftsay.errors import NoText
from graftsay.trees import is_name, is_sign

MOST_KIDS = 8


def tree_text(tree):
    """The text that writes a tree."""
    return " ".join(tree_words(tree))


def tree_words(tree):
    """The words that write a tree."""
    if tree[0] == "void":
        return ["-"]
    if tree[0] == "sign":
        return [tree[1]]
    if tree[0] == "hole":
        return ["+" + tree[1]]
    if tree[0] == "foot":
        return ["*" + tree[1]]
    return knot_words(tree)


def knot_words(knot):
    """The words that write a knot."""
    name, takes, kids = knot[1:]
    words = ["[", name]
    if takes is not None:
        words.append(("!" if takes[1] else "?") + takes[0])
    for kid in kids:
        words.extend(tree_words(kid))
    words.append("]")
    return words


def read_tree(text):
    """The tree that a text writes."""
    words = text.split(" ")
    tree, after = take_tree(words, 0)
    if after < len(words):
        raise NoText(after)
    return tree


def take_tree(words, at):
    """The tree that words write from the word number at on, and the number of the word behind it."""
    word = word_at(words, at)
    if word == "[":
        return take_knot(words, at)
    return leaf_of(word, at), at + 1


def word_at(words, at):
    """The word number at, refused where the words end ahead of it."""
    if at >= len(words):
        raise NoText(at)
    return words[at]


def leaf_of(word, at):
    """The leaf that a word writes, refused by its number."""
    if word == "-":
        return ("void",)
    if is_sign(word):
        return ("sign", word)
    if word[:1] == "+" and is_name(word[1:]):
        return ("hole", word[1:])
    if word[:1] == "*" and is_name(word[1:]):
        return ("foot", word[1:])
    raise NoText(at)


def take_knot(words, at):
    """The knot whose bracket is the word number at, and the number of the word behind it."""
    name = word_at(words, at + 1)
    if not is_name(name):
        raise NoText(at + 1)
    takes = takes_of(word_at(words, at + 2))
    kids, after = take_kids(words, at + 2 if takes is None else at + 3)
    return ("knot", name, takes, kids), after


def takes_of(word):
    """What a knot takes whose name this word follows; None where the word tells nothing of it."""
    if word[:1] in ("?", "!") and is_name(word[1:]):
        return (word[1:], word[0] == "!")
    return None


def take_kids(words, at):
    """The kids that words write from the word number at on, and the number of the word behind their bracket."""
    kids = []
    while len(kids) == 0 or word_at(words, at) != "]":
        # A ninth kid is wrong at its first word, whatever it is.
        if len(kids) == MOST_KIDS:
            raise NoText(at)
        kid, at = take_tree(words, at)
        kids.append(kid)
    return tuple(kids), at + 1
