"""The refusals, each a class of its own straight under one base."""


class GraftError(ValueError):
    """Any refusal."""


class NoPlace(GraftError):
    """A tree has no such place."""

    def __init__(self, place):
        super().__init__("the tree has no such place")
        self.place = place


class NoText(GraftError):
    """A text writes nothing; at is the number of the word that shows it."""

    def __init__(self, at):
        super().__init__(f"nothing is written so, as word {at} shows")
        self.at = at


class NoKey(GraftError):
    """A book's tree has no key, or a book has too few trees or too many."""

    def __init__(self, number):
        super().__init__(f"there is no key for tree {number}")
        self.number = number


class Twice(GraftError):
    """A key stands twice in a book."""

    def __init__(self, key):
        super().__init__(f"the key {key} stands twice")
        self.key = key


class NoTree(GraftError):
    """A tree is neither a start nor a graft; word tells why."""

    def __init__(self, key, word):
        super().__init__(f"the tree {key} is no start and no graft: {word}")
        self.key = key
        self.word = word


class NoRow(GraftError):
    """A text is no row of a written book; row is its number."""

    def __init__(self, row):
        super().__init__(f"text {row} is no row of a book")
        self.row = row


class TooMany(GraftError):
    """There are more than may be told."""

    def __init__(self, most):
        super().__init__(f"there are more than {most}")
        self.most = most


class TwoSided(GraftError):
    """A graft's foot is not behind all its other leaves."""

    def __init__(self, key):
        super().__init__(f"the graft {key} is put in from two sides")
        self.key = key


class NoPlan(GraftError):
    """There is no whole plan."""

    def __init__(self, text):
        super().__init__(text)
        self.text = text


class NoLine(GraftError):
    """A desk can do nothing with a row."""

    def __init__(self, text):
        super().__init__(text)
        self.text = text
