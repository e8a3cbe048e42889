"""Which trees of a book end, which are of use, and the book of those alone."""

from graftsay.errors import NoPlan
from graftsay.slots import family_of, slots_by_key


def useful(book):
    """The lists of what each tree that ends is built of, how each tree of use comes, and the keys of the others."""
    slots = slots_by_key(book)
    built = built_list(book, slots)
    ending = {key: True for key, puts in built}
    come = come_list(book, slots, ending)
    used = {key: True for key, parent, place in come}
    ends = [key for key, tree in book[1] if key not in ending]
    ways = [key for key, tree in book[1] if key in ending and key not in used]
    return (built, come, ends, ways)


def built_list(book, slots):
    """For each tree that ends its key and the keys, listed earlier, of what can be put where something must be."""
    found = []
    listed = {}
    waiting = list(book[1])
    grown = True
    while grown:
        left = []
        for key, tree in waiting:
            due = [slot for slot in slots[key] if slot.must]
            if all(slot.family in listed for slot in due):
                found.append((key, tuple([(slot.place, listed[slot.family]) for slot in due])))
                listed.setdefault(family_of(tree), key)
            else:
                left.append((key, tree))
        grown = len(left) < len(waiting)
        waiting = left
    return found


def come_list(book, slots, ending):
    """For each tree of use its key and, but for starts named as the top, a tree listed earlier and a place of it."""
    families = {}
    for key, tree in book[1]:
        if key in ending:
            families.setdefault(family_of(tree), []).append(key)
    top = (False, book[0])
    found = [(key, None, None) for key in families.get(top, [])]
    reached = {top: True}
    seen = 0
    while seen < len(found):
        parent = found[seen][0]
        for slot in slots[parent]:
            if slot.family not in reached:
                reached[slot.family] = True
                found.extend([(key, parent, slot.place) for key in families.get(slot.family, [])])
        seen += 1
    return found


def shows_unused(book, ends, ways):
    """Whether two things are lists of keys that show that none of their trees is in any whole plan."""
    if not are_unlike_keys(book, ends) or not are_unlike_keys(book, ways):
        return False
    if any(key in ends for key in ways):
        return False
    slots = slots_by_key(book)
    return do_not_end(book, slots, ends) and are_not_reached(book, slots, ends, ways)


def are_unlike_keys(book, thing):
    """Whether a thing is a list of a book's keys, each once."""
    if not isinstance(thing, list) or not all(isinstance(key, str) for key in thing):
        return False
    trees = dict(book[1])
    return all(key in trees for key in thing) and len(set(thing)) == len(thing)


def do_not_end(book, slots, ends):
    """Whether each of these trees has a place where something must be put, and all that can be is one of these."""
    others = {family_of(tree): True for key, tree in book[1] if key not in ends}
    for key in ends:
        if all(slot.family in others or not slot.must for slot in slots[key]):
            return False
    return True


def are_not_reached(book, slots, ends, ways):
    """Whether no tree of ways is a start named as the top, or can be put in one that is of neither list."""
    trees = dict(book[1])
    families = {family_of(trees[key]): True for key in ways}
    if (False, book[0]) in families:
        return False
    for key in trees:
        if key not in ends and key not in ways and any(slot.family in families for slot in slots[key]):
            return False
    return True


def trimmed(book):
    """The book with the trees of use alone, in their order."""
    built, come, ends, ways = useful(book)
    used = {key: True for key, parent, place in come}
    if not used:
        raise NoPlan("no tree of the book is of use")
    return (book[0], tuple([(key, tree) for key, tree in book[1] if key in used]))
