"""Plans unfolded from a chart: each item is taken back to those of which it comes.

An item is a tuple of a step's number and ends. A way in which it comes is a tuple of items, what is put there first.
"""

from graftsay.charts import has_item


def plans_from(chart, goal, picked):
    """The plans of an item of a whole; picked(chart, item, ways) is a list of those ways that are gone, of all."""
    key, place, done = chart.layout.steps[goal[0]].spot
    puts_told = unfolded(
        goal,
        lambda item: picked(chart, item, ways_to(chart, item)),
        lambda item, way, found: puts_by(chart, item, way, found),
    )
    return [(key, puts) for puts in puts_told]


def all_ways(chart, item, ways):
    """All ways in which an item comes."""
    return ways


def first_way(chart, item, ways):
    """One way in which an item comes."""
    return ways[:1]


def unfolded(goal, ways_of, made):
    """What is made of an item: the list of all that made(item, way, found) tells of each of its ways.

    ways_of(item) are the ways in which an item comes; found has for each of a way's items what is made of it.
    """
    # A list of what waits, instead of calls within calls: items hang on one another deeper than calls may go.
    found = {}
    waiting = [goal]
    while waiting:
        item = waiting[-1]
        ways = ways_of(item)
        missing = [part for way in ways for part in way if part not in found]
        if missing:
            waiting.extend(missing)
        else:
            found[item] = [one for way in ways for one in made(item, way, found)]
            waiting.pop()
    return found[goal]


def puts_by(chart, item, way, found):
    """The tuples of puts that build an item by a way, found those that build the way's items."""
    step = chart.layout.steps[item[0]]
    built = [()]
    for number, part in enumerate(way):
        options = found[part]
        if number == 0 and is_put(step, way):
            options = [put_there(chart, step, part, puts) for puts in options]
        built = [puts + more for puts in built for more in options]
    return built


def is_put(step, way):
    """Whether a way's first item is put at a step's piece."""
    return step.rule == "hole" or step.rule == "done" and len(way) == 2


def put_there(chart, step, whole, puts):
    """The tuple of the put, at a step's piece, of the plan with these puts, whose whole is an item."""
    key, place, done = chart.layout.steps[whole[0]].spot
    return ((step.spot[1], (key, puts)),)


def ways_to(chart, item):
    """All ways in which an item comes."""
    number, ends = item
    step = chart.layout.steps[number]
    if step.rule == "hole":
        return hole_ways(chart, step, ends)
    if step.rule == "chain":
        return chain_ways(chart, step, ends)
    if step.rule == "bare":
        return [((step.parts[0], ends),)]
    if step.rule == "done":
        return done_ways(chart, step, ends)
    return [()]


def present(chart, ways):
    """Those ways of which the chart has all items."""
    return [way for way in ways if all(has_item(chart, part) for part in way)]


def hole_ways(chart, step, ends):
    """The ways in which a hole comes to its ends."""
    wholes = chart.layout.families.get(step.told, [])
    return present(chart, [((whole, ends),) for whole in wholes])


def chain_ways(chart, step, ends):
    """The ways in which two come to their ends, one behind the other."""
    first, second = step.parts
    begin, low, high, end = ends
    if chart.layout.steps[second].footed:
        ways = [
            ((first, (begin, -1, -1, middle)), (second, (middle, low, high, end)))
            for middle in range(begin, low + 1)
        ]
    else:
        ways = [
            ((first, (begin, low, high, middle)), (second, (middle, -1, -1, end)))
            for middle in range(max(begin, high), end + 1)
        ]
    return present(chart, ways)


def done_ways(chart, step, ends):
    """The ways in which a knot comes to its ends, done."""
    begin, low, high, end = ends
    bare = step.parts[0]
    ways = [] if step.must else [((bare, ends),)]
    last_inner = low if step.footed else end
    for graft in chart.layout.families.get(step.told, []):
        for inner in range(begin, last_inner + 1):
            for outer in range(max(inner, high), end + 1):
                ways.append(((graft, (begin, inner, outer, end)), (bare, (inner, low, high, outer))))
    return present(chart, ways)
