"""Pairs of a state and a number, which show what was found."""

from comesback.kinds import is_number, is_tuple_of
from comesback.settings import is_state


def numbered(setting, thing):
    """Return the numbers of the states, if thing is a tuple of pairs (state, number).

    The states are different ones of the setting and the numbers are from 0 on;
    for everything else, return None.
    """
    numbers = with_integers(setting, thing)
    if numbers is None or not all([number >= 0 for number in numbers.values()]):
        return None
    return numbers


def with_integers(setting, thing):
    """Return the same for pairs with any integers, also below 0."""
    if not isinstance(thing, tuple):
        return None
    numbers = {}
    for pair in thing:
        if not is_tuple_of(pair, 2):
            return None
        state, number = pair
        if not is_state(setting, state) or state in numbers or not is_number(number):
            return None
        numbers[state] = number
    return numbers


def ascending(numbers):
    """Return the pairs of the states and their numbers, ascending."""
    return tuple(sorted(numbers.items()))
