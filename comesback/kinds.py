"""What kinds of values there are: numbers, which no bool stands for."""


def is_number(thing):
    """Tell whether thing is an int that is not a bool."""
    return isinstance(thing, int) and not isinstance(thing, bool)


def is_within(thing, low, high):
    """Tell whether thing is an integer from low to high."""
    return is_number(thing) and low <= thing <= high


def is_tuple_of(thing, size):
    """Tell whether thing is a tuple of this many items."""
    return isinstance(thing, tuple) and len(thing) == size


def are_within(thing, low, high):
    """Tell whether thing is a tuple of integers from low to high."""
    return isinstance(thing, tuple) and all([is_within(one, low, high) for one in thing])


def is_set(thing):
    """Tell whether thing is an ascending tuple of different integers."""
    if not isinstance(thing, tuple) or not all([is_number(one) for one in thing]):
        return False
    return all([low < high for low, high in zip(thing, thing[1:])])
