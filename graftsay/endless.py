"""Whether a book's plans end: rounds that can be gone any number of times, or heights that bound the plans' sizes."""

from graftsay.kinds import are_whole_numbers, is_whole_number
from graftsay.slots import family_of, slots_by_key
from graftsay.useful import trimmed, useful


def gone(plan, way, ring, times):
    """The plan with the round, from the plan at way on, gone so many times."""
    there = plan_at(plan, way)
    grown = plan_at(there, ring)
    for turn in range(times):
        grown = put_along(there, ring, grown)
    return put_along(plan, way, grown)


def plan_at(plan, way):
    """The plan at a way into a plan."""
    for place in way:
        plan = dict(plan[1])[place]
    return plan


def put_along(plan, way, other):
    """The plan with another one in the place of the one at a way into it."""
    grown = other
    for depth in reversed(range(len(way))):
        key, puts = plan_at(plan, way[:depth])
        grown = (key, tuple([(place, grown if place == way[depth] else put) for place, put in puts]))
    return grown


def endless(book):
    """A way and a round, or the greatest size and the heights that show it."""
    small = trimmed(book)
    slots = slots_by_key(small)
    heights = heights_of(small, slots)
    if len(heights) == len(small[1]):
        size = greatest_of(small, heights)[(False, book[0])]
        return ("bounded", size, [(key, heights[key]) for key, tree in small[1]])
    ring = ring_among(slots, [(key, tree) for key, tree in small[1] if key not in heights])
    return ("endless", way_to(book, ring[0][0]), ring)


def heights_of(book, slots):
    """The heights of all trees of a book that lead into no round."""
    left = {}
    for key, tree in book[1]:
        left[family_of(tree)] = left.get(family_of(tree), 0) + 1
    greatest = {}
    heights = {}
    waiting = list(book[1])
    grown = True
    while grown:
        others = []
        for key, tree in waiting:
            if all(left.get(slot.family, 0) == 0 for slot in slots[key]):
                heights[key] = height_by(slots[key], greatest)
                family = family_of(tree)
                left[family] -= 1
                greatest[family] = max(heights[key], greatest.get(family, 0))
            else:
                others.append((key, tree))
        grown = len(others) < len(waiting)
        waiting = others
    return heights


def height_by(slots, greatest):
    """The height of a tree with these slots by the greatest heights of families."""
    return 1 + sum([greatest.get(slot.family, 0) for slot in slots])


def greatest_of(book, heights):
    """The greatest height that a listed tree of each family has."""
    greatest = {}
    for key, tree in book[1]:
        if key in heights:
            family = family_of(tree)
            greatest[family] = max(heights[key], greatest.get(family, 0))
    return greatest


def ring_among(slots, trees):
    """A round of trees that all lead to others of them."""
    follower = {family_of(tree): key for key, tree in trees}
    path = []
    numbers = {}
    key = trees[0][0]
    while key not in numbers:
        numbers[key] = len(path)
        slot = [slot for slot in slots[key] if slot.family in follower][0]
        path.append((key, slot.place))
        key = follower[slot.family]
    return path[numbers[key]:]


def way_to(book, key):
    """The path from a start named as the top to a tree of use."""
    built, come, ends, ways = useful(book)
    parents = {child: (parent, place) for child, parent, place in come}
    way = []
    while parents[key] != (None, None):
        way.append(parents[key])
        key = parents[key][0]
    return way[::-1]


def is_round(book, way, ring):
    """Whether two things are a way to a round and the round."""
    if not isinstance(way, list) or not isinstance(ring, list) or len(ring) == 0:
        return False
    built, come, ends, ways = useful(book)
    families = {key: family_of(tree) for key, tree in book[1] if key not in ends}
    slots = slots_by_key(book)
    asked = {(key, slot.place): slot.family for key in families for slot in slots[key]}
    path = way + ring
    if not all(is_placed_key(thing) and thing in asked for thing in path):
        return False
    # What each tuple's place asks for has to be the family of the next key; round's last place leads to its first key.
    told = [families[key] for key, place in path + ring[:1]]
    return told == [(False, book[0])] + [asked[step] for step in path]


def is_placed_key(thing):
    """Whether a thing is a tuple of a text and of a tuple of whole numbers."""
    return isinstance(thing, tuple) and len(thing) == 2 and isinstance(thing[0], str) and are_whole_numbers(thing[1])


def are_heights(book, thing, size):
    """Whether a thing is the heights of a book, and size the greatest of them."""
    if not isinstance(thing, list) or not all(is_height(row) for row in thing) or not is_whole_number(size):
        return False
    built, come, ends, ways = useful(book)
    used = {key: True for key, parent, place in come}
    if not used or [key for key, number in thing] != [key for key, tree in book[1] if key in used]:
        return False
    greatest = greatest_of(book, dict(thing))
    if size != greatest[(False, book[0])]:
        return False
    slots = slots_by_key(book)
    # Along a round heights would have to fall without end: so these rows alone tell that there is none.
    return all(number == height_by(slots[key], greatest) for key, number in thing)


def is_height(thing):
    """Whether a thing is a tuple of a text and a whole number from 1 on."""
    if not isinstance(thing, tuple) or len(thing) != 2:
        return False
    return isinstance(thing[0], str) and is_whole_number(thing[1]) and thing[1] >= 1
