"""Whether there are rows of fresh asks behind which the service does not come back."""

from comesback.calm import calm_round, fates, lead
from comesback.inflows import check_most, check_steady
from comesback.kinds import are_within, is_tuple_of, is_within
from comesback.pairs import ascending, numbered
from comesback.settings import first_state, is_state
from comesback.ways import behind, behind_each, behind_row, explore, shortest_row

MOST_BEATS = 10000


def rows(setting, steady, most):
    """Return ("always", pairs), or ("down", row, beats, round) of the first of such rows."""
    check_all(setting, steady, most)
    first = first_state(setting)
    graph = explore(setting, first, most)
    found = fates(setting, steady, list(graph))
    for state in graph:
        if found[state] is None:
            beats, ring = lead(setting, steady, state)
            return ("down", shortest_row(graph, first, state), beats, ring)
    return ("always", ascending({state: found[state] for state in graph}))


def shows_rows(setting, steady, most, thing):
    """Tell whether thing, any value, shows what rows tells."""
    check_all(setting, steady, most)
    if is_tuple_of(thing, 2) and thing[0] == "always":
        return shows_always(setting, steady, most, thing[1])
    if is_tuple_of(thing, 4) and thing[0] == "down":
        _, row, beats, ring = thing
        return (
            are_within(row, 0, most)
            and is_within(beats, 0, MOST_BEATS)
            and is_round(setting, steady, ring)
            and shows_down(setting, steady, row + (steady,) * beats, ring)
        )
    return False


def shows_always(setting, steady, most, pairs):
    """Tell whether pairs are all states that rows lead to, with ranks that fall to the calm round."""
    ranks = numbered(setting, pairs)
    if ranks is None or first_state(setting) not in ranks:
        return False
    ring = calm_round(setting, steady)
    for state, rank in ranks.items():
        states = behind_each(setting, state, most)
        if not all([one in ranks for one in states]):
            return False
        if rank == 0 and state not in ring:
            return False
        if rank > 0 and ranks[states[steady]] >= rank:
            return False
    return True


def is_round(setting, steady, thing):
    """Tell whether thing is a tuple of states that steady beats go round, perhaps more than once."""
    if not isinstance(thing, tuple) or not thing:
        return False
    if not all([is_state(setting, state) for state in thing]):
        return False
    after = thing[1:] + thing[:1]
    return all([behind(setting, state, steady) == one for state, one in zip(thing, after)])


def shows_down(setting, steady, row, ring):
    """Tell whether the row leads to the first state of the round, and that is not the calm one."""
    if behind_row(setting, first_state(setting), row) != ring[0]:
        return False
    # Two rounds of steady beats have all states in common, or none.
    return ring[0] not in calm_round(setting, steady)


def check_all(setting, steady, most):
    """Raise NoSetting, NoSteady or NoMost for what is no such thing."""
    check_steady(setting, steady)
    check_most(most, steady)
