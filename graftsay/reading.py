"""Rows read: a plan, or entries that show that there is none."""

from graftsay.charts import Chart, Counting, filled_chart, goals_in, is_closed, lay_entry, listed_entries
from graftsay.unfolding import first_way, plans_from


def read(book, row):
    """A whole plan whose row it is, or entries that show that there is none."""
    chart = filled_chart(book, row, Counting())
    goals = goals_in(chart)
    if goals:
        return ("plan", plans_from(chart, goals[0], first_way)[0])
    return ("none", listed_entries(chart))


def shows_none(book, row, thing):
    """Whether a thing is a list of entries that shows that no whole plan builds the row."""
    if not isinstance(thing, list):
        return False
    chart = Chart(book, row, Counting())
    for entry in thing:
        if not lay_entry(chart, entry, 1):
            return False
    return not goals_in(chart) and is_closed(chart)
