"""Where steady beats lead: into the calm round, or into another one."""

from comesback.inflows import check_start, check_steady
from comesback.settings import first_state
from comesback.ways import behind


def calm(setting, steady):
    """Return how many steady beats lead from the first state into the calm round, and it."""
    check_steady(setting, steady)
    return lead(setting, steady, first_state(setting))


def stays(setting, steady, state):
    """Return ("back", beats), or ("down", beats, round) of a state that does not come back."""
    check_start(setting, steady, state)
    beats, ring = lead(setting, steady, state)
    if ring[0] in calm_round(setting, steady):
        return ("back", beats)
    return ("down", beats, ring)


def lead(setting, steady, state):
    """Return how many steady beats lead from the state into a round, and that round."""
    places = {}
    while state not in places:
        places[state] = len(places)
        state = behind(setting, state, steady)
    beats = places[state]
    return beats, tuple(list(places)[beats:])


def calm_round(setting, steady):
    """Return the states of the calm round."""
    return calm(setting, steady)[1]


def fates(setting, steady, states):
    """Return a dict: after how many steady beats each of the states is back, or None.

    It tells this of the states on their ways, too.
    """
    found = {state: 0 for state in calm_round(setting, steady)}
    for state in states:
        follow(setting, steady, state, found)
    return found


def follow(setting, steady, state, found):
    """Put into found what becomes of the state, and of those on its way."""
    way = {}
    while state not in found and state not in way:
        way[state] = True
        state = behind(setting, state, steady)
    # A way that turned into itself found no calm round: then this is None, too.
    beats = found.get(state)
    for one in reversed(list(way)):
        if beats is not None:
            beats = beats + 1
        found[one] = beats
