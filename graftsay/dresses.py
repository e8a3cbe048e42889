"""Dresses: the trees of a book with the states through which a walker goes along what they build.

A dress is a tuple (key, own, marks): own tells whether it is a whole plan's own tree; marks is a tuple of tuples
(place, done, ahead, behind), sorted: the states ahead of each hole, knot not done, knot done and foot, and behind it.

An item is a tuple of a step's number and a span: (ahead, behind, foot), the states ahead of the piece and behind it,
and the number of the pair of states ahead of its foot and behind it, 0 where it has no foot.
"""

from graftsay.errors import TooMany
from graftsay.steps import Layout
from graftsay.unfolding import unfolded


class Runs:
    """For each step of a book the pairs of states between which a walker can go along what it builds.

    held has them as the keys of a dict, each with the numbers of the pairs that can be left to the foot as bits: bit 0
    alone where there is no foot. gathered has the same for each family: what the wholes of all its trees have, done.
    """

    def __init__(self, book, walker):
        many, begin, ends, steps = walker
        self.many = many
        self.goals = [(begin, end, 0) for end in ends]
        self.goes = {}
        for state, sign, other in steps:
            self.goes.setdefault(sign, {})[(state, other)] = 1
        self.layout = Layout(book)
        self.held = [{} for step in self.layout.steps]
        self.gathered = {family: {} for family in self.layout.families}


def pair_number(runs, ahead, behind):
    """The number of a pair of states."""
    return ahead * runs.many + behind


def filled_runs(book, walker):
    """The runs of all that the trees of a book build."""
    runs = Runs(book, walker)
    steps = runs.layout.steps
    trees = laid_trees(runs.layout)
    waiting = trees
    while waiting:
        grown = {}
        for family, numbers, asked in waiting:
            for number in numbers:
                runs.held[number] = runs_by(runs, steps[number])
            if gather_runs(runs, family, runs.held[numbers[-1]]):
                grown[family] = True
        waiting = [tree for tree in trees if any(family in grown for family in tree[2])]
    return runs


def laid_trees(layout):
    """For each tree its family, the numbers of its steps, the whole's last, and the families that it asks for."""
    families = {whole: family for family in layout.families for whole in layout.families[family]}
    found = []
    first = 0
    for whole in sorted(families):
        numbers = list(range(first, whole + 1))
        asked = [layout.steps[number].told for number in numbers if layout.steps[number].rule in ("hole", "done")]
        found.append((families[whole], numbers, asked))
        first = whole + 1
    return found


def gather_runs(runs, family, held):
    """Adds what a whole has to what its family has; whether that grew."""
    before = runs.gathered[family]
    after = {pair: before[pair] for pair in before}
    for pair in held:
        after[pair] = after.get(pair, 0) | held[pair]
    runs.gathered[family] = after
    return after != before


def runs_by(runs, step):
    """What a step has by what its parts have, and what can be put there."""
    states = list(range(runs.many))
    if step.rule == "sign":
        return runs.goes.get(step.told, {})
    if step.rule == "void":
        return {(state, state): 1 for state in states}
    if step.rule == "foot":
        return {(ahead, behind): 1 << pair_number(runs, ahead, behind) for ahead in states for behind in states}
    if step.rule == "hole":
        return runs.gathered.get(step.told, {})
    if step.rule == "chain":
        return chained_runs(runs, step)
    if step.rule == "bare":
        return runs.held[step.parts[0]]
    return done_runs(runs, step)


def chained_runs(runs, step):
    """What two have one behind the other."""
    first, second = step.parts
    found = {}
    for (ahead, middle), feet in runs.held[first].items():
        for behind in range(runs.many):
            # One of both has no foot at least: its bits are the number 1, and those of the other stay as they are.
            more = feet * runs.held[second].get((middle, behind), 0)
            if more:
                found[(ahead, behind)] = found.get((ahead, behind), 0) | more
    return found


def done_runs(runs, step):
    """What a knot has, done."""
    bare = runs.held[step.parts[0]]
    found = {} if step.must else {pair: bare[pair] for pair in bare}
    for pair, inner in runs.gathered.get(step.told, {}).items():
        for ahead, behind in bare:
            if inner >> pair_number(runs, ahead, behind) & 1:
                found[pair] = found.get(pair, 0) | bare[(ahead, behind)]
    return found


def has_span(runs, item):
    """Whether an item's step has its span."""
    number, (ahead, behind, foot) = item
    return runs.held[number].get((ahead, behind), 0) >> foot & 1 == 1


def span_ways(runs, item):
    """The ways in which an item comes of its step's parts."""
    number, span = item
    step = runs.layout.steps[number]
    if step.rule == "chain":
        ways = [chain_way(runs, step, span, middle) for middle in range(runs.many)]
    elif step.rule == "bare":
        ways = [((step.parts[0], span),)]
    elif step.rule == "done":
        ways = [((step.parts[0], inner),) for inner in inner_spans(runs, step, span)]
    else:
        ways = [()]
    return [way for way in ways if all(has_span(runs, part) for part in way)]


def chain_way(runs, step, span, middle):
    """The items of two one behind the other that part at a state."""
    first, second = step.parts
    ahead, behind, foot = span
    steps = runs.layout.steps
    first_foot = foot if steps[first].footed else 0
    second_foot = foot if steps[second].footed else 0
    return ((first, (ahead, middle, first_foot)), (second, (middle, behind, second_foot)))


def inner_spans(runs, step, span):
    """The spans that a knot can have, not done, where it has a span, done."""
    ahead, behind, foot = span
    inner = runs.gathered.get(step.told, {}).get((ahead, behind), 0)
    if not step.must:
        inner = inner | 1 << pair_number(runs, ahead, behind)
    states = list(range(runs.many))
    return [(low, high, foot) for low in states for high in states if inner >> pair_number(runs, low, high) & 1]


def marks_by(runs, item, way, found, most):
    """The tuples of marks that an item can have by a way in which it comes, found those of the way's items."""
    marks = [()]
    for part in way:
        # Each makes a dress of its own: what is looked at stands in one.
        if len(marks) * len(found[part]) > most:
            raise TooMany(most)
        marks = [some + more for some in marks for more in found[part]]
    number, (ahead, behind, foot) = item
    step = runs.layout.steps[number]
    if step.rule in ("sign", "void", "chain"):
        return marks
    key, place, done = step.spot
    return [some + ((place, done, ahead, behind),) for some in marks]


def family_dresses(runs, family, own, span, most):
    """The dresses of a family's trees whose wholes have a span, done."""
    found = []
    for whole in runs.layout.families.get(family, []):
        if not has_span(runs, (whole, span)):
            continue
        marks = unfolded(
            (whole, span),
            lambda item: span_ways(runs, item),
            lambda item, way, known: marks_by(runs, item, way, known, most),
        )
        key, place, done = runs.layout.steps[whole].spot
        found.extend([(key, own, tuple(sorted(some))) for some in marks])
        if len(found) > most:
            raise TooMany(most)
    return found


def asked_by(runs, dress):
    """What can be put in a dress: tuples of a family and a span."""
    key, own, marks = dress
    pairs = {(place, done): (ahead, behind) for place, done, ahead, behind in marks}
    found = []
    for place, done, ahead, behind in marks:
        step = runs.layout.steps[runs.layout.numbers[(key, place, done)]]
        if step.rule == "hole":
            found.append((step.told, (ahead, behind, 0)))
        if step.rule == "done" and step.told is not None:
            low, high = pairs[(place, False)]
            found.append((step.told, (ahead, behind, pair_number(runs, low, high))))
    return found


def dresses_of(book, walker, most):
    """The dresses that stand in whole plans whose rows a walker takes, in the book's order; refused beyond most."""
    runs = filled_runs(book, walker)
    waiting = [(True, (False, book[0]), span) for span in runs.goals]
    asked = {asking: True for asking in waiting}
    found = []
    while waiting:
        own, family, span = waiting.pop()
        dresses = family_dresses(runs, family, own, span, most)
        found.extend(dresses)
        if len(found) > most:
            raise TooMany(most)
        for more in [(False, *put) for dress in dresses for put in asked_by(runs, dress)]:
            if more not in asked:
                asked[more] = True
                waiting.append(more)
    order = {key: number for number, (key, tree) in enumerate(book[1])}
    return sorted(found, key=lambda dress: (order[dress[0]], dress))
