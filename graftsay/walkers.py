"""Walkers, which go along rows from state to state."""

from graftsay.kinds import are_whole_numbers, is_whole_number
from graftsay.trees import is_sign

MOST_STATES = 5
MOST_STEPS = 40


def is_walker(thing):
    """Whether a thing is a walker."""
    if not isinstance(thing, tuple) or len(thing) != 4:
        return False
    many, begin, ends, steps = thing
    if not is_whole_number(many) or not 1 <= many <= MOST_STATES:
        return False
    return is_state(many, begin) and are_rising_states(many, ends) and are_steps(many, steps)


def is_state(many, thing):
    """Whether a thing is one of so many states."""
    return is_whole_number(thing) and 0 <= thing < many


def are_rising_states(many, thing):
    """Whether a thing is a tuple of states, rising, each once."""
    if not are_whole_numbers(thing) or not all(is_state(many, state) for state in thing):
        return False
    return list(thing) == sorted(set(thing))


def are_steps(many, thing):
    """Whether a thing is a tuple of steps between states, at most one for each state and sign."""
    if not isinstance(thing, tuple) or len(thing) > MOST_STEPS or not all(is_step(many, step) for step in thing):
        return False
    return len({(state, sign) for state, sign, other in thing}) == len(thing)


def is_step(many, thing):
    """Whether a thing is a tuple of a state, a sign and a state."""
    if not isinstance(thing, tuple) or len(thing) != 3:
        return False
    return is_state(many, thing[0]) and is_sign(thing[1]) and is_state(many, thing[2])


def is_taken(walker, row):
    """Whether a walker takes a row."""
    many, begin, ends, steps = walker
    goes = {(state, sign): other for state, sign, other in steps}
    state = begin
    for sign in row:
        if (state, sign) not in goes:
            return False
        state = goes[(state, sign)]
    return state in ends
