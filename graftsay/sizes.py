"""How many whole plans of a size there are, and which; the rows up to a length that whole plans have."""

from graftsay.errors import TooMany
from graftsay.rowsets import whole_rows
from graftsay.slots import family_of, slots_by_key

MOST_ROWS = 1000


class Tally:
    """How many plans there are, size by size.

    sized has for each family the tuples of a size and how many plans of that size its trees have, where there are any.
    ways has for each tree, for each number of its first slots and each number of keys, in how many ways so many keys
    in all can be put at these slots.
    """

    def __init__(self, book):
        self.top = (False, book[0])
        self.slots = slots_by_key(book)
        self.members = {}
        for key, tree in book[1]:
            self.members.setdefault(family_of(tree), []).append(key)
        self.sized = {family: [] for family in self.members}
        self.ways = {key: [[] for count in range(len(self.slots[key]) + 1)] for key in self.slots}


def filled_tally(book, size):
    """The tally of all plans up to a size."""
    tally = Tally(book)
    members = tally.members
    for keys in range(size):
        for key, tree in book[1]:
            tally_puts(tally, key, keys)
        for family in members:
            many = sum([tally.ways[key][-1][keys] for key in members[family]])
            if many > 0:
                tally.sized[family].append((keys + 1, many))
    return tally


def tally_puts(tally, key, keys):
    """Lays down in how many ways so many keys can be put at a tree's slots; fewer keys have been seen to."""
    ways = tally.ways[key]
    ways[0].append(1 if keys == 0 else 0)
    for number, slot in enumerate(tally.slots[key]):
        before = ways[number]
        many = sum([before[keys - size] * plans for size, plans in tally.sized.get(slot.family, [])])
        ways[number + 1].append(many if slot.must else many + before[keys])


def many_in(tally, size):
    """How many whole plans of a size a tally has."""
    return dict(tally.sized.get(tally.top, [])).get(size, 0)


def many_of(book, size):
    """How many whole plans of a size a book has."""
    return many_in(filled_tally(book, size), size)


def plans_of(book, size, most):
    """All whole plans of a size, sorted; refused where they are more than most."""
    tally = filled_tally(book, size)
    many = many_in(tally, size)
    if many > most:
        raise TooMany(most)
    return sorted(family_plans(tally, tally.top, size, {})) if many > 0 else []


def family_plans(tally, family, size, known):
    """All plans of a size of a family's trees; known has those that have been told."""
    if (family, size) not in known:
        keys = tally.members.get(family, [])
        known[(family, size)] = [(key, puts) for key in keys for puts in all_puts(tally, key, size - 1, known)]
    return known[(family, size)]


def all_puts(tally, key, keys, known):
    """All tuples of puts of a tree that have so many keys in all."""
    ways = tally.ways[key]
    # From the last slot to the first: ways tells what the slots still ahead can take, so that no choice is in vain.
    found = [((), keys)] if ways[-1][keys] > 0 else []
    for number, slot in reversed(list(enumerate(tally.slots[key]))):
        found = [part for puts, left in found for part in with_slot(tally, slot, ways[number], (puts, left), known)]
    return [puts for puts, left in found]


def with_slot(tally, slot, before, part, known):
    """A tuple of puts and how many keys are left, with each choice of what is put at a slot ahead of these puts."""
    puts, left = part
    found = []
    if not slot.must and before[left] > 0:
        found.append((puts, left))
    for size, many in tally.sized.get(slot.family, []):
        if size <= left and before[left - size] > 0:
            plans = family_plans(tally, slot.family, size, known)
            found.extend([(((slot.place, plan), *puts), left - size) for plan in plans])
    return found


def rows_to(book, length):
    """The rows of at most so many signs that whole plans have, the shorter ones first, those of one length sorted."""
    return whole_rows(book, length, MOST_ROWS)
