"""The entries of a book and a row."""

from graftsay.charts import Counting, filled_chart, listed_entries


def entries(book, row):
    """All entries that come, sorted, each once."""
    return listed_entries(filled_chart(book, row, Counting()))
