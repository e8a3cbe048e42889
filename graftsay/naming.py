"""Names and keys for the trees of books that are made of others."""


def name_for(names, told):
    """A name that stands for what is told and for nothing else; names, which grows, has those given so far."""
    return names.setdefault(told, f"N{len(names)}")


def keyed(trees):
    """The trees with a key each, as a book has them."""
    return tuple([(f"k{number}", tree) for number, tree in enumerate(trees)])
