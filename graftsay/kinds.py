"""Whether things are whole numbers, which truths are not."""


def is_whole_number(thing):
    """Whether a thing is a whole number."""
    return isinstance(thing, int) and not isinstance(thing, bool)


def are_whole_numbers(thing):
    """Whether a thing is a tuple of whole numbers."""
    return isinstance(thing, tuple) and all(is_whole_number(number) for number in thing)
