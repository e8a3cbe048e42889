"""A book laid out as steps: which entries come of which."""

from graftsay.slots import family_of


class Step:
    """One rule at one piece of one tree.

    rule is sign, void, foot, hole, chain, bare or done: a chain is a knot's first kids, two or more, one behind the
    other; bare is a knot that is not done, done one that is. spot is an entry but for its ends, None for a chain. told
    is the sign, or the family whose trees can be put there. parts are the numbers of the steps of its premises in the
    same tree. must tells whether something has to be put, footed whether the piece has or is the foot.
    """

    def __init__(self, rule, spot, told, parts, must, footed):
        self.rule = rule
        self.spot = spot
        self.told = told
        self.parts = parts
        self.must = must
        self.footed = footed


class Layout:
    """The steps of a book, each behind those of its parts.

    numbers has the number of the step of each spot; families has, for each tuple of whether trees are grafts and their
    name, the numbers of the steps of their wholes, done.
    """

    def __init__(self, book):
        self.steps = []
        self.numbers = {}
        self.families = {}
        for key, tree in book[1]:
            whole = lay_piece(self, key, (), tree)
            self.families.setdefault(family_of(tree), []).append(whole)


def lay_piece(layout, key, place, piece):
    """Lays the steps of a piece and of all within it; the number of the one that makes it done."""
    if piece[0] == "knot":
        return lay_knot(layout, key, place, piece)
    told = None
    if piece[0] == "sign":
        told = piece[1]
    if piece[0] == "hole":
        told = (False, piece[1])
    return lay_step(layout, Step(piece[0], (key, place, True), told, (), piece[0] == "hole", piece[0] == "foot"))


def lay_knot(layout, key, place, knot):
    """Lays the steps of a knot and of all within it; the number of the one that makes it done."""
    last = lay_piece(layout, key, place + (0,), knot[3][0])
    for number in range(1, len(knot[3])):
        kid = lay_piece(layout, key, place + (number,), knot[3][number])
        footed = layout.steps[last].footed or layout.steps[kid].footed
        last = lay_step(layout, Step("chain", None, None, (last, kid), False, footed))
    footed = layout.steps[last].footed
    bare = lay_step(layout, Step("bare", (key, place, False), None, (last,), False, footed))
    told = None
    must = False
    if knot[2] is not None:
        told = (True, knot[2][0])
        must = knot[2][1]
    return lay_step(layout, Step("done", (key, place, True), told, (bare,), must, footed))


def lay_step(layout, step):
    """Lays a step behind the others; its number."""
    number = len(layout.steps)
    layout.steps.append(step)
    if step.spot is not None:
        layout.numbers[step.spot] = number
    return number
