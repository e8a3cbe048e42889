"""What several tests need: trees, books, ways to spoil things, and answers found by other ways than the package's.

Nothing here imports the package: what it tells is held against what the package tells.
"""

import itertools
import random
import re

NAME = re.compile(r"[A-Z][A-Z0-9]{0,23}")
SIGN = re.compile(r"[a-z]{1,6}")
KEY = re.compile(r"[a-z][a-z0-9]{0,23}")
PLACE = re.compile(r"\.|[0-7](\.[0-7])*")

# Each line end and tab, and each sign from the blank to ~.
ALL_SIGNS = "\n\t" + "".join(chr(code) for code in range(32, 127))
GREAT = "ABCDEFGHIJKLMNOPQRSTUVWXYZ"
SMALL = "abcdefghijklmnopqrstuvwxyz"
FIGURES = "0123456789"


def knot(name, *kids, takes=None):
    return ("knot", name, takes, kids)


def sign(text):
    return ("sign", text)


A, B, C = sign("a"), sign("b"), sign("c")
VOID = ("void",)

# Texts and the trees that they write, held against each other by hand.
WRITTEN_TREES = [
    ("a", ("sign", "a")),
    ("abcdef", ("sign", "abcdef")),
    ("void", ("sign", "void")),
    ("-", ("void",)),
    ("+N", ("hole", "N")),
    ("*M1", ("foot", "M1")),
    ("[ S a ]", ("knot", "S", None, (("sign", "a"),))),
    ("[ S ?M a ]", ("knot", "S", ("M", False), (("sign", "a"),))),
    ("[ S !M a ]", ("knot", "S", ("M", True), (("sign", "a"),))),
    ("[ S a [ X !M +N *M ] - ]",
     ("knot", "S", None, (
         ("sign", "a"), ("knot", "X", ("M", True), (("hole", "N"), ("foot", "M"))), ("void",)))),
    ("[ TOP top void knot sign hole foot ]",
     ("knot", "TOP", None, (
         ("sign", "top"), ("sign", "void"), ("sign", "knot"), ("sign", "sign"), ("sign", "hole"), ("sign", "foot")))),
    ("[ E8 a b c d e f g h ]",
     ("knot", "E8", None, tuple(("sign", letter) for letter in "abcdefgh"))),
    ("[ A ?A [ B ?B [ C !C x ] *D ] [ E - ] ]",
     ("knot", "A", ("A", False), (
         ("knot", "B", ("B", False), (("knot", "C", ("C", True), (("sign", "x"),)), ("foot", "D"))),
         ("knot", "E", None, (("void",),))))),
    ("[ S [ T - - - - - - - - ] [ U +A +B +C +D +E +F +G +H ] * ]".replace(" * ", " *Z "),
     ("knot", "S", None, (
         ("knot", "T", None, (("void",),) * 8),
         ("knot", "U", None, tuple(("hole", letter) for letter in "ABCDEFGH")),
         ("foot", "Z")))),
]
TREES = [tree for text, tree in WRITTEN_TREES]

# Words of each kind that a written tree has, and words that are none.
TREE_WORDS = ["a", "top", "-", "+N", "*M", "[", "]", "?M", "!M", "S"]
NO_TREE_WORDS = [
    "", "a\n", "a\t", "]\n", "\t]", "S\n", "+N\n", "*M\t", "?M\n", "!M\t", "-\n", "[\t", "abcdefg", "a1", "aB", "Sa",
    "1S", "+", "*", "?", "!", "+n", "*m", "?m", "!m", "+1", "++N", "+" + "N" * 25, "?" + "M" * 25, "N" * 25, "--",
    "[[", "]]", "[S", "a]", "(", ")", ".", ":", "0", "~", "_", "?", "a-b", "None",
]


def walked(tree, place=()):
    """The places and pieces of a tree, in order."""
    yield place, tree
    if tree[0] == "knot":
        for number, kid in enumerate(tree[3]):
            yield from walked(kid, place + (number,))


def pieces(tree):
    return [piece for place, piece in walked(tree)]


def is_leaf_word(word):
    return word == "-" or bool(SIGN.fullmatch(word) or (word[:1] in ("+", "*") and NAME.fullmatch(word[1:])))


def tree_end(words):
    """("end", the number of the word behind the tree that words begin with), or ("fault", what NoText has to tell).

    It goes word by word and keeps for each knot not yet closed how many kids it has, None ahead of its name.
    """
    counts = []
    behind_name = False
    for at, word in enumerate(words):
        was_behind_name, behind_name = behind_name, False
        if counts and counts[-1] is None:
            if not NAME.fullmatch(word):
                return "fault", at
            counts[-1] = 0
            behind_name = True
            continue
        if was_behind_name and word[:1] in ("?", "!") and NAME.fullmatch(word[1:]):
            continue
        if counts and counts[-1] and word == "]":
            counts.pop()
        elif counts and counts[-1] == 8:
            return "fault", at
        elif word == "[":
            counts.append(None)
            continue
        elif not is_leaf_word(word):
            return "fault", at
        if not counts:
            return "end", at + 1
        counts[-1] += 1
    return "fault", len(words)


def plan_end(words):
    """As tree_end, of plans: what may stand at each word hangs on the word ahead and on how many brackets are open."""
    depth = 0
    due = "plan"
    for at, word in enumerate(words):
        if due == "plan" and word == "(":
            depth, due = depth + 1, "key"
        elif due == "key" and KEY.fullmatch(word):
            due = "more"
        elif due == "more" and word == ")":
            depth -= 1
            if depth == 0:
                return "end", at + 1
        elif due == "more" and PLACE.fullmatch(word):
            due = "plan"
        else:
            return "fault", at
    return "fault", len(words)


def whole_end(end, words):
    """The number that NoText has to tell of a text's words, None where they write something; end is one of the above."""
    told, at = end(words)
    if told == "end" and at == len(words):
        return None
    return at


def edits(words, others):
    """Lists of words near to one: with one left out, doubled, moved, put in, exchanged, and cut off behind any."""
    for at in range(len(words)):
        yield words[:at] + words[at + 1:]
        yield words[:at] + [words[at]] + words[at:]
        yield words[:at]
        for other in others + [words[at] + "\n", words[at] + "\t", "\n" + words[at]]:
            yield words[:at] + [other] + words[at:]
            yield words[:at] + [other] + words[at + 1:]
        for other in range(at):
            swapped = list(words)
            swapped[at], swapped[other] = swapped[other], swapped[at]
            yield swapped
    for other in others:
        yield words + [other]


ODD_THINGS = [None, True, False, 0, 1, -1, 10 ** 59, "", "a", "A", "x\n", (), [], ((),), [[]], ("sign",), (None,), (0,)]


def spoiled(thing, odd=ODD_THINGS):
    """Things near to one that is made of tuples: with a part exchanged, left out, doubled, turned about, a list."""
    yield from odd
    if not isinstance(thing, tuple):
        return
    yield list(thing)
    for at, part in enumerate(thing):
        yield thing[:at] + thing[at + 1:]
        yield thing[:at] + (part,) + thing[at:]
        for other in range(at):
            turned = list(thing)
            turned[at], turned[other] = turned[other], turned[at]
            yield tuple(turned)
        for other in spoiled(part, odd):
            yield thing[:at] + (other,) + thing[at + 1:]
    yield thing + (None,)
    yield (thing,)


def looks_name(thing):
    return isinstance(thing, str) and NAME.fullmatch(thing) is not None


def looks_tree(thing):
    """Whether a thing is a tree."""
    if not isinstance(thing, tuple) or not thing or not isinstance(thing[0], str):
        return False
    kind, *parts = thing
    if kind == "knot" and len(parts) == 3:
        name, takes, kids = parts
        taking = takes is None or (
            isinstance(takes, tuple) and len(takes) == 2 and looks_name(takes[0]) and takes[1] in (True, False)
            and isinstance(takes[1], bool))
        many = isinstance(kids, tuple) and len(kids) in range(1, 9)
        return looks_name(name) and taking and many and all(looks_tree(kid) for kid in kids)
    if kind in ("hole", "foot"):
        return len(parts) == 1 and looks_name(parts[0])
    if kind == "sign":
        return len(parts) == 1 and isinstance(parts[0], str) and SIGN.fullmatch(parts[0]) is not None
    return kind == "void" and not parts


def tree_fault(tree):
    """The word of NoTree, None for a start or a graft."""
    kinds = [piece[0] for piece in pieces(tree)]
    if kinds[0] != "knot":
        return "knot"
    if kinds.count("foot") > 1:
        return "feet"
    if "sign" not in kinds:
        return "sign"
    if len(kinds) > 60 or max(len(place) for place, piece in walked(tree)) > 11:
        return "great"
    return None


def book_fault(trees):
    """The name of the refusal of a list of keys and trees, and its fields; None where they make a book."""
    if not trees or len(trees) > 400:
        return ("NoKey", 400 if trees else 0)
    for number, (key, tree) in enumerate(trees):
        if not KEY.fullmatch(key):
            return ("NoKey", number)
        if key in [earlier for earlier, other in trees[:number]]:
            return ("Twice", key)
        if tree_fault(tree):
            return ("NoTree", key, tree_fault(tree))
    return None


# The fields of the refusals that are told of books.
FIELDS = {"NoRow": ["row"], "NoKey": ["number"], "Twice": ["key"], "NoTree": ["key", "word"]}


def fault_told(error):
    """An error as book_fault tells it."""
    name = type(error).__name__
    return (name,) + tuple(getattr(error, field) for field in FIELDS.get(name, []))


def looks_book(thing):
    """Whether a thing is a book."""
    if not isinstance(thing, tuple) or len(thing) != 2 or not looks_name(thing[0]) or not isinstance(thing[1], tuple):
        return False
    for row in thing[1]:
        if not isinstance(row, tuple) or len(row) != 2 or not isinstance(row[0], str) or not looks_tree(row[1]):
            return False
    return book_fault(list(thing[1])) is None


def plain_tree(many):
    """A start of that many pieces, 57 or more."""
    eights = [knot("X", *[A] * 7) for count in range(7)]
    rest = many - 57
    return knot("S", *eights, *([knot("X", *[A] * (rest - 1))] if rest > 1 else [A] * rest))


def deep_tree(numbers, leaf=A):
    """A chain of knots; the leaf's place has that many numbers."""
    tree = leaf
    for count in range(numbers):
        tree = knot("S", tree)
    return tree


# A book whose plans end, so that all of them can be told, with what is put at wholes, holes, above and beneath feet.
BOUNDED_ROWS = [
    "top S",
    "s : [ S ?M a [ X !M +N b ] - ]",
    "t : [ S +N c ]",
    "u : [ T +N c ]",
    "n : [ N c ]",
    "o : [ N ?K d [ Y ?K e ] ]",
    "m : [ M f *M ]",
    "l : [ L ?K g [ Z *M ] a ]",
    "r : [ R [ Q !K b *M ] +P ]",
    "top : [ K h *K - ]",
    "k2 : [ S +P *K i ]",
    "p : [ P j ]",
]
BOUNDED = ("S", (
    ("s", knot("S", A, knot("X", ("hole", "N"), B, takes=("M", True)), VOID, takes=("M", False))),
    ("t", knot("S", ("hole", "N"), C)),
    ("u", knot("T", ("hole", "N"), C)),
    ("n", knot("N", C)),
    ("o", knot("N", sign("d"), knot("Y", sign("e"), takes=("K", False)), takes=("K", False))),
    ("m", knot("M", sign("f"), ("foot", "M"))),
    ("l", knot("L", sign("g"), knot("Z", ("foot", "M")), A, takes=("K", False))),
    ("r", knot("R", knot("Q", B, ("foot", "M"), takes=("K", True)), ("hole", "P"))),
    ("top", knot("K", sign("h"), ("foot", "K"), VOID)),
    ("k2", knot("S", ("hole", "P"), ("foot", "K"), sign("i"))),
    ("p", knot("P", sign("j"))),
))

# A book whose plans don't end: as many a, b, c and d.
ENDLESS = ("S", (
    ("s", knot("S", A, knot("X", B, takes=("M", False)), C)),
    ("g", knot("X", A, knot("Y", B, ("foot", "M"), C, takes=("M", False)), sign("d"))),
    ("h", knot("X", ("hole", "S"), ("foot", "M"), sign("e"), takes=("M", False))),
))


def put_keys(book, piece):
    """The keys of the trees that can be put at a piece."""
    kind, name = "none", None
    if piece[0] == "hole":
        kind, name = "start", piece[1]
    elif piece[0] == "knot" and piece[2]:
        kind, name = "graft", piece[2][0]
    told = []
    for key, tree in book[1]:
        feet = [part[1] for part in pieces(tree) if part[0] == "foot"]
        if (kind, name) == (("graft", feet[0]) if feet else ("start", tree[1])):
            told.append(key)
    return told


def plans_with(book, key, depth):
    """All plans of a book with that key as their own, of at most so many within one another."""
    if depth == 0:
        return []
    choices = []
    for place, piece in walked(dict(book[1])[key]):
        puts = [
            ((place, plan),)
            for other in put_keys(book, piece)
            for plan in plans_with(book, other, depth - 1)
        ]
        if piece[0] == "knot" and not (piece[2] and piece[2][1]) or piece[0] in ("sign", "void", "foot"):
            puts.append(())
        choices.append(puts)
    return [(key, sum(choice, ())) for choice in itertools.product(*choices)]


def all_plans(book, depth=9):
    return [plan for key, tree in book[1] for plan in plans_with(book, key, depth)]


BOUNDED_PLANS = all_plans(BOUNDED)
ENDLESS_PLANS = all_plans(ENDLESS, 3)


def keys_in(plan):
    """All keys of a plan, each as often as it stands."""
    return [plan[0]] + [key for place, put in plan[1] for key in keys_in(put)]


def grown(book, plan):
    """What a plan builds, found from the whole inwards."""
    puts = dict(plan[1])

    def build(place, piece):
        if piece[0] == "hole":
            return grown(book, puts[place])
        if piece[0] != "knot":
            return piece
        kids = tuple(build(place + (number,), kid) for number, kid in enumerate(piece[3]))
        bare = ("knot", piece[1], None, kids)
        if place not in puts:
            return bare
        return footed(grown(book, puts[place]), bare)

    return build((), dict(book[1])[plan[0]])


def footed(tree, other):
    """A tree with another one in the place of its foot."""
    if tree[0] == "foot":
        return other
    if tree[0] == "knot":
        return tree[:3] + (tuple(footed(kid, other) for kid in tree[3]),)
    return tree


def has_foot(piece):
    return any(part[0] == "foot" for part in pieces(piece))


def looks_number(thing):
    return type(thing) is int


def looks_entry(book, row, thing):
    """Whether a thing is an entry of a book and a row, whether it comes or not."""
    if type(thing) is not tuple or len(thing) != 4:
        return False
    key, place, done, ends = thing
    if type(key) is not str or type(place) is not tuple or type(done) is not bool or type(ends) is not tuple:
        return False
    if len(ends) != 4 or not all(looks_number(number) for number in place + ends):
        return False
    found = [dict(walked(tree)).get(place) for other, tree in book[1] if other == key]
    if found in ([], [None]) or (found[0][0] != "knot" and not done):
        return False
    footed = has_foot(found[0])
    bounds = [0, *(ends if footed else ends[::3]), len(row)]
    return bounds == sorted(bounds) and (footed or ends[1:3] == (-1, -1))


def chains(lists):
    """All tuples of one ends of each list, each one's end the next one's beginning."""
    if len(lists) == 1:
        return [(ends,) for ends in lists[0]]
    return [chain + (ends,) for chain in chains(lists[:-1]) for ends in lists[-1] if chain[-1][3] == ends[0]]


def instances(book, row, listed):
    """All cases of the rules of point 14 whose premises are among the entries listed.

    Each is a tuple of what comes, the list of its premises, and the key of the tree where its whole comes not done.
    """
    by_spot = {}
    for entry in listed:
        by_spot.setdefault(entry[:3], []).append(entry[3])
    for key, tree in book[1]:
        for place, piece in walked(tree):
            for ends, premises, done in piece_instances(book, row, by_spot, key, place, piece):
                yield (key, place, done, ends), premises, key if place == () and not done else None


def piece_instances(book, row, by_spot, key, place, piece):
    bounds = range(len(row) + 1)
    if piece[0] == "sign":
        yield from [((at, -1, -1, at + 1), [], True) for at in bounds[:-1] if row[at] == piece[1]]
    if piece[0] == "void":
        yield from [((at, -1, -1, at), [], True) for at in bounds]
    if piece[0] == "foot":
        yield from [((j, j, k, k), [], True) for j in bounds for k in bounds if j <= k]
    if piece[0] == "hole":
        for other in put_keys(book, piece):
            for ends in by_spot.get((other, (), True), []):
                yield ends, [(other, (), True, ends)], True
    if piece[0] != "knot":
        return
    kids = [(key, place + (number,), True) for number in range(len(piece[3]))]
    for chain in chains([by_spot.get(kid, []) for kid in kids]):
        feet = [ends[1:3] for kid, ends in zip(piece[3], chain) if has_foot(kid)] + [(-1, -1)]
        yield (chain[0][0],) + feet[0] + (chain[-1][3],), [kid + (ends,) for kid, ends in zip(kids, chain)], False
    bare = (key, place, False)
    for ends in by_spot.get(bare, []):
        if not (piece[2] and piece[2][1]):
            yield ends, [bare + (ends,)], True
        for other in put_keys(book, piece):
            for i, j, k, l in by_spot.get((other, (), True), []):
                if (j, k) == (ends[0], ends[3]):
                    yield (i, ends[1], ends[2], l), [(other, (), True, (i, j, k, l)), bare + (ends,)], True


def closed_list(book, row, listed):
    """Entries and all that comes of them by the rules, one after another till nothing more comes; sorted."""
    while True:
        more = listed | {entry for entry, premises, key in instances(book, row, listed)}
        if more == listed:
            return sorted(listed)
        listed = more


def ruled(book, row):
    """All entries of a book and a row."""
    return closed_list(book, row, set())


def goals_of(book, row):
    """The goals of a book and a row, whether they come or not."""
    return [(key, (), True, (0, -1, -1, len(row))) for key in put_keys(book, ("hole", book[0]))]


def shows(book, row, thing):
    """Whether a thing is a list of entries that shows that there is no plan."""
    if type(thing) is not list or not all(looks_entry(book, row, entry) for entry in thing):
        return False
    held = set(thing)
    if len(held) != len(thing) or any(goal in held for goal in goals_of(book, row)):
        return False
    return all(entry in held for entry, premises, key in instances(book, row, held))


def bears_out(book, prices, row, price, thing, dear):
    """Whether a thing is worths that bear a price out."""
    if type(thing) is not list or not all(type(worth) is tuple and len(worth) == 2 for worth in thing):
        return False
    if not all(looks_entry(book, row, entry) and looks_number(number) for entry, number in thing):
        return False
    held = dict(thing)
    goals = [goal for goal in goals_of(book, row) if goal in held]
    way = -1 if dear else 1
    if len(held) != len(thing) or not goals or any(held[goal] * way < price * way for goal in goals):
        return False
    by_key = {key: cost for (key, tree), cost in zip(book[1], prices)}
    for entry, premises, key in instances(book, row, held):
        total = sum(held[premise] for premise in premises) + (by_key[key] if key else 0)
        if entry not in held or held[entry] * way > total * way:
            return False
    return True


def cost_of(book, prices, plan):
    """The price of a plan."""
    by_key = {key: cost for (key, tree), cost in zip(book[1], prices)}
    return sum(by_key[key] for key in keys_in(plan))


class Great(Exception):
    """There are more plans than a test can hold."""


def signs_in(tree):
    return sum(piece[0] == "sign" for piece in pieces(tree))


def one_key(tree):
    return 1


def plans_of_signs(book, most, cap=3000, weigh=signs_in):
    """All whole plans of a book whose rows have at most so many signs: each tree has a sign, so that they end.

    With one_key to weigh a tree, all whole plans of at most so many keys.
    """
    trees = dict(book[1])
    members = {}
    known = {}

    def keys_at(piece):
        # All that can be put at a piece hangs on these alone.
        family = (piece[0], piece[1:2] if piece[0] == "hole" else piece[2:3])
        if family not in members:
            members[family] = put_keys(book, piece)
        return members[family]

    def plans(key, many):
        if (key, many) not in known:
            own = weigh(trees[key])
            partial = [((), many - own)] if own <= many else []
            for place, piece in walked(trees[key]):
                partial = put_in(partial, place, piece)
            known[key, many] = [(key, puts) for puts, rest in partial if rest == 0]
        return known[key, many]

    def put_in(partial, place, piece):
        others = keys_at(piece)
        idle = piece[0] not in ("hole", "knot") or piece[0] == "knot" and not (piece[2] and piece[2][1])
        told = []
        for puts, rest in partial:
            if idle:
                told.append((puts, rest))
            for other in others:
                for many in range(1, rest + 1):
                    told.extend((puts + ((place, plan),), rest - many) for plan in plans(other, many))
            if len(told) > cap:
                raise Great
        return told

    return [plan for many in range(most + 1) for key in put_keys(book, ("hole", book[0])) for plan in plans(key, many)]


def rows_and_plans(book, most, cap=3000):
    """The rows of at most so many signs that whole plans have, each with all its plans."""
    told = {}
    for plan in plans_of_signs(book, most, cap):
        told.setdefault(row_in(book, plan), []).append(plan)
    return told


def chance_piece(chance, depth, names):
    """A tree of at most so many knots within one another, without a foot."""
    rolled = chance.random()
    if depth and rolled < 0.45:
        return chance_knot(chance, depth, names)
    if rolled < 0.75:
        return sign(chance.choice(["a", "b", "ab"]))
    return VOID if rolled < 0.85 else ("hole", chance.choice(names))


def chance_knot(chance, depth, names):
    kids = [chance_piece(chance, depth - 1, names) for count in range(chance.choice([1, 1, 2, 3]))]
    takes = None if chance.random() < 0.5 else (chance.choice(names), chance.random() < 0.3)
    return knot(chance.choice(names), *kids, takes=takes)


def with_foot(chance, tree, name):
    """A knot with a foot put between the kids of one of its knots."""
    at = chance.choice([place for place, piece in walked(tree) if piece[0] == "knot"])

    def put(place, piece):
        if piece[0] != "knot":
            return piece
        kids = [put(place + (number,), kid) for number, kid in enumerate(piece[3])]
        if place == at:
            kids.insert(chance.randrange(len(kids) + 1), ("foot", name))
        return piece[:3] + (tuple(kids),)

    return put((), tree)


def chance_book(seed, many=5, names=("S", "M", "SM")):
    """A book made by chance, the same for the same seed."""
    chance = random.Random(seed)
    trees = []
    while len(trees) < many:
        tree = chance_knot(chance, chance.choice([1, 1, 2, 3]), names)
        if chance.random() < 0.5:
            tree = with_foot(chance, tree, chance.choice(names))
        if tree_fault(tree) is None:
            trees.append(("k" + "1" * len(trees), tree))
    # One start that ends for the top, that most books have plans.
    return ("S", tuple(trees) + (("k0", knot("S", A, takes=(chance.choice(names), False))),))


# Books in which trees can be put in the same ones again and again.
ROUNDS = [
    ("S", (("s", knot("S", ("hole", "S"), ("hole", "S"), A)), ("t", knot("S", A)))),
    ("S", (("s", knot("S", A, takes=("M", False))), ("m", knot("S", ("foot", "M"), B, takes=("M", False))))),
    ("S", (
        ("s", knot("S", A, ("hole", "T"))), ("t", knot("T", ("hole", "S"), B)), ("u", knot("T", B, takes=("M", True))),
        ("m", knot("T", knot("X", ("foot", "M"), takes=("M", False)), A)),
    )),
    # None of these ends.
    ("S", (("s", knot("S", ("hole", "S"), A)), ("m", knot("M", A, ("foot", "M"), takes=("M", True))))),
    ("S", (("s", knot("S", A, takes=("M", True))), ("m", knot("M", A, ("foot", "M"), ("hole", "S"))))),
]

# A book in which much comes in many ways.
DENSE = ("S", (
    ("s", knot("S", A, takes=("M", False))),
    ("t", knot("S", ("hole", "S"), ("hole", "S"), A, takes=("M", False))),
    ("u", knot("S", knot("X", ("hole", "S"), A, takes=("M", False)), knot("Y", A, VOID, takes=("K", False)))),
    ("g", knot("X", A, knot("Y", ("foot", "M"), takes=("M", False)), takes=("M", False))),
    ("h", knot("X", knot("Y", ("foot", "M"), takes=("K", False)), A, takes=("M", False))),
    ("i", knot("X", A, knot("Y", knot("Z", ("foot", "M"), takes=("K", False)), ("hole", "S")), A, takes=("K", False))),
    ("j", knot("X", knot("Y", ("foot", "K"), takes=("M", False)), knot("Z", ("hole", "S"), A, takes=("M", False)))),
))


def many_of_signs(book, signs, weigh=signs_in):
    """How many whole plans of a book have rows of just so many signs; with one_key, have just so many keys."""
    trees = dict(book[1])
    members = {}
    known = {}

    def family_at(piece):
        family = (piece[0], piece[1] if piece[0] == "hole" else piece[0] == "knot" and piece[2] and piece[2][0])
        if family not in members:
            members[family] = put_keys(book, piece)
        return family

    def together(family, left):
        if (family, left) not in known:
            known[family, left] = sum(many(key, left) for key in members[family])
        return known[family, left]

    def many(key, left):
        if (key, left) not in known:
            own = weigh(trees[key])
            # For each number of signs left, in how many ways all places seen so far can be seen to.
            ways = [0] * (left + 1)
            if own <= left:
                ways[left - own] = 1
            for piece in pieces(trees[key]):
                family = family_at(piece)
                idle = piece[0] not in ("hole", "knot") or piece[0] == "knot" and not (piece[2] and piece[2][1])
                seen, ways = ways, [count * idle for count in ways]
                if not members[family]:
                    continue
                for rest, put in itertools.product(range(left), range(1, left)):
                    # Some are the tree's own: fewer than all are left to what is put.
                    if rest + put < left and seen[rest + put]:
                        ways[rest] += seen[rest + put] * together(family, put)
            known[key, left] = ways[0]
        return known[key, left]

    return together(family_at(("hole", book[0])), signs)


def row_in(book, plan):
    """The row of a plan."""
    return tuple(piece[1] for piece in pieces(grown(book, plan)) if piece[0] == "sign")


def goes_along(walker, state, row):
    """The state in which a walker ends that begins a row in a state, None where it stops on the way."""
    for text in row:
        told = [other for one, sign, other in walker[3] if (one, sign) == (state, text)]
        if not told:
            return None
        state = told[0]
    return state


def takes_row(walker, row):
    """Whether a walker takes a row."""
    return goes_along(walker, walker[1], row) in walker[2]


class Stopped(Exception):
    """A walker has no step."""


def dresses_in(book, walker, plan):
    """The dresses that stand in a whole plan, a set of tuples (key, own, marks); None where its row is not taken."""
    found = set()

    def run(plan, own, state, beneath):
        """Goes along what a plan builds; beneath goes along what hangs on its foot."""
        puts = dict(plan[1])
        marks = []

        def marked(place, done, ahead, behind):
            marks.append((place, done, ahead, behind))
            return behind

        def along(place, piece, state):
            if piece[0] == "sign":
                behind = goes_along(walker, state, [piece[1]])
                if behind is None:
                    raise Stopped
                return behind
            if piece[0] == "void":
                return state
            if piece[0] == "foot":
                return marked(place, True, state, beneath(state))
            if piece[0] == "hole":
                return marked(place, True, state, run(puts[place], False, state, None))

            def bare(first):
                behind = first
                for number, kid in enumerate(piece[3]):
                    behind = along(place + (number,), kid, behind)
                return marked(place, False, first, behind)

            return marked(place, True, state, run(puts[place], False, state, bare) if place in puts else bare(state))

        last = along((), dict(book[1])[plan[0]], state)
        found.add((plan[0], own, tuple(sorted(marks))))
        return last

    try:
        last = run(plan, True, walker[1], None)
    except Stopped:
        return None
    return found if last in walker[2] else None


def chance_walker(seed, signs=("a", "b", "ab", "c", "d", "e", "f")):
    """A walker made by chance, the same for the same seed."""
    chance = random.Random(seed)
    many = chance.randint(1, 5)
    steps = [
        (state, text, chance.randrange(many)) for state in range(many) for text in signs if chance.random() < 0.8]
    chance.shuffle(steps)
    ends = sorted(chance.sample(range(many), chance.randint(0, many)))
    return (many, chance.randrange(many), tuple(ends), tuple(steps[:40]))


def numbered(trees):
    """A book of trees, with the top S."""
    return ("S", tuple(("k" + str(number), tree) for number, tree in enumerate(trees)))


def chain_of(many, last=A):
    """A book of starts, each with a hole for the next one."""
    trees = [knot("N" + str(number) if number else "S", A, ("hole", "N" + str(number + 1))) for number in range(many - 1)]
    return numbered(trees + [knot("N" + str(many - 1) if many > 1 else "S", last)])


def all_dresses(book, walker, most=5000):
    """All dresses that stand in whole plans that a walker takes, a set; Great where they seem to be very many.

    Facts are grown till nothing more comes: a family and the states ahead of a whole of it and behind it, and those
    ahead of its foot and behind that, if it has one. Then from the top on those dresses are kept that are come to.
    """
    facts = set()
    while True:
        told = [dress for key, tree in book[1] for dress in tree_dresses(book, walker, facts, key, tree, most)]
        more = {fact for fact, key, marks, asked in told}
        if more == facts:
            break
        facts = more
    reached = {("start", book[0], walker[1], end) for end in walker[2]}
    owned = {(key, True, marks) for fact, key, marks, asked in told if fact in reached}
    reached = {ask for fact, key, marks, asked in told if fact in reached for ask in asked}
    while True:
        more = reached | {ask for fact, key, marks, asked in told if fact in reached for ask in asked}
        found = owned | {(key, False, marks) for fact, key, marks, asked in told if fact in reached}
        if more == reached:
            return found
        reached = more


def tree_dresses(book, walker, facts, key, tree, most):
    """Tuples of a fact, a key, marks and the facts that are asked for, for all that facts allow."""
    states = range(walker[0])

    def along(place, piece, state):
        """Tuples of the state behind a piece, the states at its foot, marks and what is asked for."""
        if piece[0] == "sign":
            behind = goes_along(walker, state, [piece[1]])
            return [] if behind is None else [(behind, (), (), ())]
        if piece[0] == "void":
            return [(state, (), (), ())]
        if piece[0] == "foot":
            return [(behind, (state, behind), ((place, True, state, behind),), ()) for behind in states]
        if piece[0] == "hole":
            asks = [("start", piece[1], state, behind) for behind in states]
            return [(ask[3], (), ((place, True, state, ask[3]),), (ask,)) for ask in asks if ask in facts]
        told = []
        for first in states if piece[2] else [state]:
            for last, foot, marks, asked in bare(place, piece, first):
                for behind in states if piece[2] else [last]:
                    same = (first, last) == (state, behind)
                    ask = ("graft", piece[2][0], state, behind, first, last) if piece[2] else None
                    if ask in facts or same and not (piece[2] and piece[2][1]):
                        more = ((place, False, first, last), (place, True, state, behind))
                        told.append((behind, foot, marks + more, asked + ((ask,) if ask in facts else ())))
        if len(told) > most:
            raise Great
        return told

    def bare(place, piece, first):
        told = [(first, (), (), ())]
        for number, kid in enumerate(piece[3]):
            told = [
                (behind, foot + more_foot, marks + more_marks, asked + more_asked)
                for middle, foot, marks, asked in told
                for behind, more_foot, more_marks, more_asked in along(place + (number,), kid, middle)
            ]
            if len(told) > most:
                raise Great
        return told

    feet = [piece[1] for piece in pieces(tree) if piece[0] == "foot"]
    for ahead in states:
        for behind, foot, marks, asked in along((), tree, ahead):
            kind = ("graft", feet[0]) if feet else ("start", tree[1])
            yield kind + (ahead, behind) + foot, key, tuple(sorted(marks)), asked
