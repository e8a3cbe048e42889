"""Charts: the entries of a book and a row, each with a worth, and what comes of them by the rules.

The size of an entry is how many signs it builds itself: end - begin, less what is left to the foot. An entry's size is
the sum of its premises' sizes, so that of two entries one behind the other, or round the other, the bounds of the one
tell those of the other, once the sizes are told.
"""

from graftsay.kinds import are_whole_numbers
from graftsay.steps import Layout


class Counting:
    """Worths that tell in how many ways an entry comes."""

    def __init__(self):
        self.nothing = 1

    def both(self, one, other):
        """The worth of two premises."""
        return one * other

    def either(self, one, other):
        """The worth of what comes in two ways."""
        return one + other

    def tree_worth(self, key):
        """What is added to the premises where a whole comes not done."""
        return self.nothing

    def is_kept(self, told, due):
        """Whether a told worth will do where another one comes."""
        return True


class Chart:
    """For each step of a book and each size the ends with their worths.

    gathered has the same for each family: what the wholes of all its trees have, done.
    """

    def __init__(self, book, row, kind):
        self.top = book[0]
        self.row = row
        self.kind = kind
        self.layout = Layout(book)
        self.held = [sized(row) for step in self.layout.steps]
        self.gathered = {family: sized(row) for family in self.layout.families}


def sized(row):
    """An empty dict for each size that entries of a row can have."""
    return [{} for size in range(len(row) + 1)]


def size_of_ends(ends):
    """The size of an entry with these ends."""
    begin, low, high, end = ends
    return end - begin - (high - low)


def has_item(chart, item):
    """Whether a chart has an item: a tuple of a step's number and ends."""
    number, ends = item
    return ends in chart.held[number][size_of_ends(ends)]


def worth_of(chart, item):
    """The worth of an item that a chart has."""
    number, ends = item
    return chart.held[number][size_of_ends(ends)][ends]


def filled_chart(book, row, kind):
    """The chart of all that comes."""
    chart = Chart(book, row, kind)
    for size in range(len(row) + 1):
        # Each tree has a sign of its own, so that wholes hang on smaller wholes alone: those of this size all come in
        # the first turn, and what hangs on them in the second.
        fill_size(chart, size)
        if gather_size(chart, size):
            fill_size(chart, size)
    return chart


def fill_size(chart, size):
    """Lays down all that comes with a size, as far as what it hangs on is there."""
    steps = chart.layout.steps
    for number, step in enumerate(steps):
        chart.held[number][size] = come(chart, step, size)


def gather_size(chart, size):
    """Gathers what the wholes of each family have with a size; whether there is anything."""
    families = chart.layout.families
    has_any = False
    for family in families:
        found = gathered_ends(chart, families[family], size)
        chart.gathered[family][size] = found
        if found:
            has_any = True
    return has_any


def gathered_ends(chart, numbers, size):
    """The ends of a size that steps have together, with their worths."""
    found = {}
    for number in numbers:
        for ends, worth in chart.held[number][size].items():
            add_way(chart.kind, found, ends, worth)
    return found


def is_closed(chart):
    """Whether a chart has, with the premises of each rule, what comes of it, and with a worth that will do.

    What chains have, which is told nowhere, is laid down on the way.
    """
    steps = chart.layout.steps
    for size in range(len(chart.row) + 1):
        gather_size(chart, size)
    for size in range(len(chart.row) + 1):
        for number, step in enumerate(steps):
            found = come(chart, step, size)
            if step.spot is None:
                chart.held[number][size] = found
            elif not are_kept(chart.kind, chart.held[number][size], found):
                return False
    return True


def are_kept(kind, told, due):
    """Whether told ends have all that are due, with worths that will do."""
    return all(ends in told and kind.is_kept(told[ends], due[ends]) for ends in due)


def come(chart, step, size):
    """The ends of a size that come by a step, with their worths."""
    if step.rule == "chain":
        return chained(chart, step, size)
    if step.rule == "bare":
        return bare_ends(chart, step, size)
    if step.rule == "done":
        return done_ends(chart, step, size)
    if step.rule == "hole":
        return chart.gathered[step.told][size] if step.told in chart.gathered else {}
    return leaf_ends(chart, step, size)


def leaf_ends(chart, step, size):
    """The ends of a size that a sign, void or the foot has."""
    bounds = list(range(len(chart.row) + 1))
    if step.rule == "sign" and size == 1:
        found = [(at, -1, -1, at + 1) for at, sign in enumerate(chart.row) if sign == step.told]
    elif step.rule == "void" and size == 0:
        found = [(at, -1, -1, at) for at in bounds]
    elif step.rule == "foot" and size == 0:
        found = [(low, low, high, high) for low in bounds for high in bounds if low <= high]
    else:
        found = []
    return {ends: chart.kind.nothing for ends in found}


def bare_ends(chart, step, size):
    """The ends of a size that a knot has, not done."""
    found = chart.held[step.parts[0]][size]
    key, place, done = step.spot
    if place != ():
        return found
    own = chart.kind.tree_worth(key)
    return {ends: chart.kind.both(found[ends], own) for ends in found}


def chained(chart, step, size):
    """The ends of a size that two have one behind the other."""
    first, second = step.parts
    found = {}
    for second_size in range(size + 1):
        ahead = chart.held[first][size - second_size]
        behind = chart.held[second][second_size]
        if not ahead or not behind:
            continue
        if chart.layout.steps[second].footed:
            chain_ahead(chart.kind, found, ahead, size - second_size, behind)
        else:
            chain_behind(chart.kind, found, ahead, behind, second_size)
    return found


def chain_behind(kind, found, ahead, behind, size):
    """Adds to found what comes of two of which the second one is of that size and without a foot."""
    for (begin, low, high, middle), worth in ahead.items():
        end = middle + size
        other = behind.get((middle, -1, -1, end))
        if other is not None:
            add_way(kind, found, (begin, low, high, end), kind.both(worth, other))


def chain_ahead(kind, found, ahead, size, behind):
    """Adds to found what comes of two of which the first one is of that size and without a foot."""
    for (middle, low, high, end), worth in behind.items():
        begin = middle - size
        other = ahead.get((begin, -1, -1, middle))
        if other is not None:
            add_way(kind, found, (begin, low, high, end), kind.both(other, worth))


def done_ends(chart, step, size):
    """The ends of a size that a knot has, done."""
    bare = chart.held[step.parts[0]]
    if step.told not in chart.gathered:
        return {} if step.must else bare[size]
    grafts = chart.gathered[step.told]
    found = {} if step.must else {ends: bare[size][ends] for ends in bare[size]}
    for graft_size in range(size + 1):
        if grafts[graft_size] and bare[size - graft_size]:
            graft_round(chart.kind, found, grafts[graft_size], graft_size, bare[size - graft_size])
    return found


def graft_round(kind, found, grafts, size, bare):
    """Adds to found what comes of grafts of that size put at a knot."""
    for (low, inner_low, inner_high, high), worth in bare.items():
        for ahead in range(min(size, low) + 1):
            begin = low - ahead
            end = high + size - ahead
            other = grafts.get((begin, low, high, end))
            if other is not None:
                add_way(kind, found, (begin, inner_low, inner_high, end), kind.both(other, worth))


def add_way(kind, found, ends, worth):
    """Adds a way in which ends come, by its worth."""
    if ends in found:
        found[ends] = kind.either(found[ends], worth)
    else:
        found[ends] = worth


def listed(chart):
    """The tuples of an entry of a chart and its worth, sorted by the entries."""
    found = []
    for spot in sorted(chart.layout.numbers):
        number = chart.layout.numbers[spot]
        worths = [(ends, worth) for held in chart.held[number] for ends, worth in held.items()]
        found.extend([((*spot, ends), worth) for ends, worth in sorted(worths)])
    return found


def listed_entries(chart):
    """The entries of a chart, sorted."""
    return [entry for entry, worth in listed(chart)]


def goals_in(chart):
    """The items of the goals that a chart has, in the order of their trees."""
    end = len(chart.row)
    wholes = chart.layout.families.get((False, chart.top), [])
    goals = [(whole, (0, -1, -1, end)) for whole in wholes]
    return [goal for goal in goals if has_item(chart, goal)]


def lay_entry(chart, thing, worth):
    """Lays an entry down in a chart; whether the thing is an entry, and wasn't there yet."""
    if not is_entry(chart, thing):
        return False
    key, place, done, ends = thing
    held = chart.held[chart.layout.numbers[(key, place, done)]][size_of_ends(ends)]
    if ends in held:
        return False
    held[ends] = worth
    return True


def is_entry(chart, thing):
    """Whether a thing is an entry of a chart's book and row, whether it comes or not."""
    if not isinstance(thing, tuple) or len(thing) != 4:
        return False
    key, place, done, ends = thing
    if not isinstance(key, str) or not are_whole_numbers(place) or not isinstance(done, bool):
        return False
    if (key, place, done) not in chart.layout.numbers or not are_whole_numbers(ends) or len(ends) != 4:
        return False
    begin, low, high, end = ends
    if chart.layout.steps[chart.layout.numbers[(key, place, done)]].footed:
        return 0 <= begin <= low <= high <= end <= len(chart.row)
    return 0 <= begin <= end <= len(chart.row) and low == -1 and high == -1
