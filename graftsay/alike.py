"""Two books held against each other by their rows."""

from graftsay.reading import read
from graftsay.sizes import rows_to


def held_apart(one, other, length):
    """The least row up to a length that only one of two books has, and what shows it; or the rows of both."""
    rows = rows_to(one, length)
    others = rows_to(other, length)
    parting = only_in(rows, others, 0) + only_in(others, rows, 1)
    if not parting:
        return ("alike", rows)
    many, row, side = min(parting)
    having, lacking = (one, other) if side == 0 else (other, one)
    return ("parted", row, side, read(having, row)[1], read(lacking, row)[1])


def only_in(rows, others, side):
    """The rows that are not among others, each with its length ahead of it and a side behind it."""
    known = {row: True for row in others}
    return [(len(row), row, side) for row in rows if row not in known]
