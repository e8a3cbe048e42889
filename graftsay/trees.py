"""Names, signs and trees, the places of a tree and its row of signs."""

from graftsay.errors import NoPlace

GREAT_LETTERS = "ABCDEFGHIJKLMNOPQRSTUVWXYZ"
NAME_LETTERS = "ABCDEFGHIJKLMNOPQRSTUVWXYZ0123456789"
SMALL_LETTERS = "abcdefghijklmnopqrstuvwxyz"
LONGEST_NAME = 24
LONGEST_SIGN = 6
MOST_KIDS = 8


def is_name(text):
    """Whether a text is a name."""
    if not isinstance(text, str) or not 1 <= len(text) <= LONGEST_NAME:
        return False
    return text[0] in GREAT_LETTERS and all(letter in NAME_LETTERS for letter in text)


def is_sign(text):
    """Whether a text is a sign."""
    if not isinstance(text, str) or not 1 <= len(text) <= LONGEST_SIGN:
        return False
    return all(letter in SMALL_LETTERS for letter in text)


def is_tree(thing):
    """Whether a thing is a tree."""
    # A list of what is still to be asked, instead of calls within calls, bears things of any depth.
    waiting = [thing]
    while waiting:
        piece = waiting.pop()
        if not is_piece(piece):
            return False
        waiting.extend(kids_of(piece))
    return True


def is_piece(thing):
    """Whether a thing is a tree as far as can be told without asking its kids."""
    if not isinstance(thing, tuple) or len(thing) == 0:
        return False
    kind = thing[0]
    if kind == "void":
        return len(thing) == 1
    if kind == "sign":
        return len(thing) == 2 and is_sign(thing[1])
    if kind == "hole" or kind == "foot":
        return len(thing) == 2 and is_name(thing[1])
    if kind == "knot":
        return len(thing) == 4 and is_name(thing[1]) and is_taking(thing[2]) and has_kids_count(thing[3])
    return False


def is_taking(thing):
    """Whether a thing can stand in a knot as what it takes."""
    if thing is None:
        return True
    if not isinstance(thing, tuple) or len(thing) != 2:
        return False
    return is_name(thing[0]) and isinstance(thing[1], bool)


def has_kids_count(thing):
    """Whether a thing is a tuple of as many as a knot may have kids."""
    return isinstance(thing, tuple) and 1 <= len(thing) <= MOST_KIDS


def kids_of(piece):
    """The kids of a piece, none where it is no knot."""
    if piece[0] == "knot":
        return piece[3]
    return ()


def places(tree):
    """The places of a tree, each ahead of those within it, kids in order."""
    return [place for place, piece in placed_pieces(tree)]


def placed_pieces(tree):
    """The tuples of a place and its piece, in the order of the places."""
    found = []
    waiting = [((), tree)]
    while waiting:
        place, piece = waiting.pop()
        found.append((place, piece))
        # What was laid down last is taken up first: so the first kid has to be laid down last.
        for number, kid in reversed(list(enumerate(kids_of(piece)))):
            waiting.append((place + (number,), kid))
    return found


def piece_at(tree, place):
    """The piece that stands at a place of a tree."""
    piece = tree
    for number in place:
        if not has_kid(piece, number):
            raise NoPlace(place)
        piece = piece[3][number]
    return piece


def has_kid(piece, number):
    """Whether a piece has a kid of that number."""
    if not isinstance(number, int) or isinstance(number, bool):
        return False
    return 0 <= number < len(kids_of(piece))


def put_at(tree, place, other):
    """The tree with another one at a place."""
    # Asked for the refusal alone, which has to bear the whole place and not a part of it.
    piece_at(tree, place)
    grown = other
    for depth in reversed(range(len(place))):
        grown = with_kid(piece_at(tree, place[:depth]), place[depth], grown)
    return grown


def with_kid(knot, number, kid):
    """The knot with another kid of that number."""
    name, takes, kids = knot[1:]
    return ("knot", name, takes, kids[:number] + (kid,) + kids[number + 1:])


def signs_of(tree):
    """The row of a tree: its signs from left to right."""
    return tuple([piece[1] for place, piece in placed_pieces(tree) if piece[0] == "sign"])
