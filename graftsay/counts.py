"""How many whole plans build a row, and which."""

from graftsay.charts import Counting, filled_chart, goals_in, worth_of
from graftsay.errors import TooMany
from graftsay.unfolding import all_ways, plans_from


def many_read(book, row):
    """How many whole plans build a row."""
    return many_in(filled_chart(book, row, Counting()))


def many_in(chart):
    """How many whole plans a chart that counts has."""
    return sum([worth_of(chart, goal) for goal in goals_in(chart)])


def plans_read(book, row, most):
    """All whole plans that build a row, sorted; refused where they are more than most."""
    chart = filled_chart(book, row, Counting())
    if many_in(chart) > most:
        raise TooMany(most)
    return sorted([plan for goal in goals_in(chart) for plan in plans_from(chart, goal, all_ways)])
