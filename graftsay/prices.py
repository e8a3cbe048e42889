"""Prices of plans, the cheapest and the dearest plan of a row, and worths that bear them out."""

from graftsay.charts import Chart, filled_chart, goals_in, is_closed, lay_entry, listed, listed_entries, worth_of
from graftsay.kinds import is_whole_number
from graftsay.unfolding import plans_from


class Pricing:
    """Worths that are least prices or, where it is dear, greatest ones."""

    def __init__(self, book, prices, dear):
        self.nothing = 0
        self.prices = prices_by_key(book, prices)
        self.dear = dear

    def both(self, one, other):
        """The worth of two premises."""
        return one + other

    def either(self, one, other):
        """The worth of what comes in two ways."""
        return max(one, other) if self.dear else min(one, other)

    def tree_worth(self, key):
        """What is added to the premises where a whole comes not done."""
        return self.prices[key]

    def is_kept(self, told, due):
        """Whether a told worth bounds another one from its side."""
        return told >= due if self.dear else told <= due


def prices_by_key(book, prices):
    """The price of each key of a book."""
    return {key: price for (key, tree), price in zip(book[1], prices)}


def price_of(book, prices, plan):
    """The sum of the prices of all keys of a plan."""
    priced = prices_by_key(book, prices)
    total = 0
    waiting = [plan]
    while waiting:
        key, puts = waiting.pop()
        total += priced[key]
        waiting.extend([put for place, put in puts])
    return total


def best(book, prices, row, dear=False):
    """A whole plan of a row with the least price or, where it is dear, the greatest, and worths that bear it out."""
    chart = filled_chart(book, row, Pricing(book, prices, dear))
    goals = goals_in(chart)
    if not goals:
        return ("none", listed_entries(chart))
    price = worth_of(chart, goals[0])
    for goal in goals:
        price = chart.kind.either(price, worth_of(chart, goal))
    chosen = [goal for goal in goals if worth_of(chart, goal) == price][0]
    return ("plan", plans_from(chart, chosen, best_way)[0], price, listed(chart))


def best_way(chart, item, ways):
    """One of the ways in which an item comes that gives it its worth."""
    return [way for way in ways if worth_by(chart, item, way) == worth_of(chart, item)][:1]


def worth_by(chart, item, way):
    """The worth that an item has by a way in which it comes."""
    total = sum([worth_of(chart, part) for part in way])
    step = chart.layout.steps[item[0]]
    if step.rule == "bare" and step.spot[1] == ():
        total += chart.kind.tree_worth(step.spot[0])
    return total


def bears(book, prices, row, price, thing, dear=False):
    """Whether a thing is worths of a row that bear a price out."""
    if not isinstance(thing, list):
        return False
    chart = Chart(book, row, Pricing(book, prices, dear))
    for worth in thing:
        if not lay_worth(chart, worth):
            return False
    goals = goals_in(chart)
    # A goal's number is held to the price as a conclusion's is to its premises: price, number and sum go one way.
    kept = [goal for goal in goals if chart.kind.is_kept(price, worth_of(chart, goal))]
    return len(goals) > 0 and kept == goals and is_closed(chart)


def lay_worth(chart, thing):
    """Lays a tuple of an entry and a number down in a chart; whether it is one, and the entry wasn't there yet."""
    if not isinstance(thing, tuple) or len(thing) != 2 or not is_whole_number(thing[1]):
        return False
    return lay_entry(chart, thing[0], thing[1])
