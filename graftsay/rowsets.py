"""The rows up to a length that whole plans have.

What a piece builds is held as a tuple of two rows of signs: those ahead of the foot and those behind it; all of them
are ahead where there is no foot. Only what stands in whole plans of that length is looked at: so, of a piece without a
foot, unlike rows make unlike rows of the whole, and what is found on the way can't outgrow what is to be told.
"""

from graftsay.errors import TooMany
from graftsay.steps import Layout


class Rows:
    """For each step of a book and each number of signs the tuples that it builds, as keys of a dict.

    gathered has the same for each family: what the wholes of all its trees have, done. room has for each step how many
    signs it can have in a whole plan that is not too long, a number below 0 where it has no place in one.
    """

    def __init__(self, book, length, most):
        self.most = most
        self.layout = Layout(book)
        self.room = room_of(self.layout, least_signs(self.layout, length), (False, book[0]), length)
        self.held = [[{} for signs in range(length + 1)] for step in self.layout.steps]
        self.gathered = {family: [{} for signs in range(length + 1)] for family in self.layout.families}


def whole_rows(book, length, most):
    """The rows, the shorter ones first, those of one length sorted; refused where they are more than most."""
    rows = Rows(book, length, most)
    found = []
    for signs in range(length + 1):
        # Each tree has a sign of its own, so that wholes hang on shorter wholes alone: those of so many signs all come
        # in the first turn, and what hangs on them in the second.
        fill_rows(rows, signs)
        gather_rows(rows, signs)
        found.extend([row for row, behind in sorted(wholes_of(rows, (False, book[0]), signs))])
        if len(found) > most:
            raise TooMany(most)
        fill_rows(rows, signs)
    return found


def wholes_of(rows, family, signs):
    """All that the wholes of a family's trees have, done, with so many signs."""
    return rows.gathered[family][signs] if family in rows.gathered else {}


def least_signs(layout, length):
    """The fewest signs that each step has; one more than the length where they are more, or it has nothing at all."""
    beyond = length + 1
    least = [beyond for step in layout.steps]
    grown = True
    while grown:
        families = {family: min([least[whole] for whole in layout.families[family]]) for family in layout.families}
        found = []
        for step in layout.steps:
            found.append(min(beyond, least_of(step, found, families, beyond)))
        grown = found != least
        least = found
    return least


def least_of(step, least, families, beyond):
    """The fewest signs that a step has by those of its parts and of what is put there."""
    own = sum([least[part] for part in step.parts])
    if step.rule == "sign":
        own = 1
    # What may be put is left out.
    return own + families.get(step.told, beyond) if step.must else own


def room_of(layout, least, top, length):
    """How many signs each step can have in a whole plan that is not too long."""
    asked = {top: length}
    grown = True
    while grown:
        room, found = handed_down(layout, least, asked, {top: length})
        grown = found != asked
        asked = found
    return room


def handed_down(layout, least, asked, found):
    """The room of each step by what is asked of the families; and found, grown to what they are asked for by it."""
    room = [-1 for step in layout.steps]
    for family in asked:
        for whole in layout.families.get(family, []):
            room[whole] = asked[family]
    for number in reversed(range(len(layout.steps))):
        step = layout.steps[number]
        if room[number] < least[number]:
            continue
        own = sum([least[part] for part in step.parts])
        for part in step.parts:
            # All that the step has beside the part has to have its fewest signs.
            room[part] = room[number] - (least[number] - least[part])
        if step.rule == "hole" or step.rule == "done" and step.told is not None:
            found[step.told] = max(found.get(step.told, -1), room[number] - own)
    return room, found


def fill_rows(rows, signs):
    """Lays down all that steps have with so many signs, as far as what it hangs on is there."""
    steps = rows.layout.steps
    for number, step in enumerate(steps):
        if signs <= rows.room[number]:
            found = built_by(rows, step, signs)
            hold_back(rows, step, signs, len(found))
            rows.held[number][signs] = found


def gather_rows(rows, signs):
    """Gathers what the wholes of each family have with so many signs."""
    families = rows.layout.families
    for family in families:
        rows.gathered[family][signs] = {one: True for whole in families[family] for one in rows.held[whole][signs]}


def built_by(rows, step, signs):
    """All that a step builds with so many signs."""
    if step.rule == "chain":
        return chained_rows(rows, step, signs)
    if step.rule == "bare":
        return rows.held[step.parts[0]][signs]
    if step.rule == "done":
        return done_rows(rows, step, signs)
    if step.rule == "hole":
        return wholes_of(rows, step.told, signs)
    if step.rule == "sign":
        return {((step.told,), ()): True} if signs == 1 else {}
    return {((), ()): True} if signs == 0 else {}


def chained_rows(rows, step, signs):
    """All that two build with so many signs, one behind the other."""
    first, second = step.parts
    footed = rows.layout.steps[first].footed
    found = {}
    for own in range(signs + 1):
        one = rows.held[first][own]
        other = rows.held[second][signs - own]
        hold_back(rows, step, signs, len(one) * len(other))
        for ahead, behind in one:
            for low, high in other:
                found[(ahead, behind + low) if footed else (ahead + low, high)] = True
    return found


def done_rows(rows, step, signs):
    """All that a knot builds, done, with so many signs."""
    bare = rows.held[step.parts[0]]
    if step.told not in rows.gathered:
        return {} if step.must else bare[signs]
    grafts = rows.gathered[step.told]
    found = {} if step.must else {one: True for one in bare[signs]}
    for own in range(signs):
        one = grafts[signs - own]
        other = bare[own]
        # The same comes of a graft and a knot only where the graft is parted otherwise at its foot.
        hold_back(rows, step, signs, len(one) * len(other) // (signs - own + 1))
        for ahead, behind in one:
            for low, high in other:
                found[(ahead + low, high + behind) if step.footed else (ahead + low + behind, ())] = True
    return found


def hold_back(rows, step, signs, many):
    """Refuses so many unlike ones that a step builds where they make more rows than may be told."""
    # A row of the whole tells what the step built but for the place of its foot.
    if many > rows.most * (signs + 1 if step.footed else 1):
        raise TooMany(rows.most)
