"""Settings of a service, and the states that it may be in."""

from comesback.errors import NoSetting, NoState
from comesback.kinds import is_number, is_tuple_of, is_within

WAYS = ("oldest", "newest")


def is_setting(thing):
    """Tell whether thing, any value, is a setting."""
    if not is_tuple_of(thing, 9):
        return False
    work, room, patience, tries, wait, way, keeps, tokens, fuse = thing
    return (
        is_within(work, 1, 3)
        and is_within(room, 1, 5)
        and is_within(patience, 1, 4)
        and is_within(tries, 1, 3)
        and is_within(wait, 1, 3)
        and isinstance(way, str)
        and way in WAYS
        and isinstance(keeps, bool)
        and (tokens is None or is_within(tokens, 0, 4))
        and (fuse is None or is_fuse(fuse))
    )


def is_fuse(thing):
    """Tell whether thing is a fuse (many, rest)."""
    if not is_tuple_of(thing, 2):
        return False
    many, rest = thing
    return is_within(many, 1, 3) and is_within(rest, 1, 3)


def first_state(setting):
    """Return the first state of the setting."""
    check_setting(setting)
    _, _, _, tries, wait, _, _, tokens, _ = setting
    nobody = (0,) * (tries - 1)
    return (0, (), (nobody,) * wait, most_tokens(tokens), 0)


def is_state(setting, thing):
    """Tell whether thing, any value, is a state of the setting."""
    check_setting(setting)
    if not is_tuple_of(thing, 5):
        return False
    _, room, patience, tries, wait, _, keeps, most, fuse = setting
    dead, queue, later, tokens, door = thing
    return (
        is_within(dead, 0, room if keeps else 0)
        and is_queue(queue, room - dead, tries, patience)
        and is_later(later, wait, tries)
        and is_within(tokens, 0, most_tokens(most))
        and is_within(door, 0, longest_rest(fuse))
    )


def is_queue(thing, free, tries, patience):
    """Tell whether thing is a queue of at most free askers, the oldest first."""
    if not isinstance(thing, tuple) or len(thing) > free:
        return False
    oldest = patience - 1
    for asker in thing:
        if not is_tuple_of(asker, 2):
            return False
        left, age = asker
        if not is_within(left, 0, tries - 1) or not is_within(age, 1, oldest):
            return False
        oldest = age
    return True


def is_later(thing, wait, tries):
    """Tell whether thing tells, for each of wait beats, how many ask again."""
    if not is_tuple_of(thing, wait):
        return False
    return all([is_again(one, tries - 1) for one in thing])


def is_again(thing, size):
    """Tell whether thing is a tuple of this many integers from 0 on."""
    if not is_tuple_of(thing, size):
        return False
    return all([is_number(many) and many >= 0 for many in thing])


def most_tokens(tokens):
    """Return how many tokens there are at most; none where they do not matter."""
    return 0 if tokens is None else tokens


def longest_rest(fuse):
    """Return for how many beats the door is shut at most."""
    return 0 if fuse is None else fuse[1]


def check_setting(setting):
    """Raise NoSetting for what is not a setting."""
    if not is_setting(setting):
        raise NoSetting("this is not a setting")


def check_state(setting, state):
    """Raise NoSetting, or else NoState for what is not a state of the setting."""
    if not is_state(setting, state):
        raise NoState("this is not a state of the setting")
