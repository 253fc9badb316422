"""Whether two settings answer as many, whatever comes."""

from comesback.inflows import check_inflow
from comesback.kinds import are_within, is_tuple_of
from comesback.settings import check_setting, first_state, is_state
from comesback.steps import step
from comesback.ways import behind_each, behind_row, shortest_row, spread


def alike(one, other, most):
    """Return ("alike", pairs), or ("apart", row) of the first row that tells them apart."""
    check_setting(one)
    check_inflow(other, most)
    first = first_states(one, other)
    graph = spread(first, lambda both: pairs_behind(one, other, both, most))
    for pair in graph:
        fresh = first_difference(one, other, pair, most)
        if fresh is not None:
            return ("apart", shortest_row(graph, first, pair) + (fresh,))
    return ("alike", tuple(sorted(graph)))


def shows_alike(one, other, most, thing):
    """Tell whether thing, any value, shows what alike tells."""
    check_setting(one)
    check_inflow(other, most)
    if not is_tuple_of(thing, 2):
        return False
    word, shown = thing
    if word == "alike":
        return shows_all_pairs(one, other, most, shown)
    if word == "apart":
        return are_within(shown, 0, most) and shows_apart(one, other, shown)
    return False


def shows_all_pairs(one, other, most, pairs):
    """Tell whether pairs are different ones, with the first, that lead to no others and no difference."""
    if not isinstance(pairs, tuple) or not all([is_pair(one, other, pair) for pair in pairs]):
        return False
    found = {pair: True for pair in pairs}
    if len(found) < len(pairs) or first_states(one, other) not in found:
        return False
    for pair in pairs:
        if first_difference(one, other, pair, most) is not None:
            return False
        if not all([behind in found for behind in pairs_behind(one, other, pair, most)]):
            return False
    return True


def shows_apart(one, other, row):
    """Tell whether the last beat of the row has different numbers of answered ones."""
    if not row:
        return False
    first, second = first_states(one, other)
    pair = (behind_row(one, first, row[:-1]), behind_row(other, second, row[:-1]))
    return differs(one, other, pair, row[-1])


def is_pair(one, other, thing):
    """Tell whether thing is a pair of a state of each setting."""
    return is_tuple_of(thing, 2) and is_state(one, thing[0]) and is_state(other, thing[1])


def first_states(one, other):
    """Return the pair of the first states."""
    return (first_state(one), first_state(other))


def pairs_behind(one, other, pair, most):
    """Return the pairs of states behind one beat with 0, with 1, .. with most fresh asks."""
    return list(zip(behind_each(one, pair[0], most), behind_each(other, pair[1], most)))


def first_difference(one, other, pair, most):
    """Return the smallest number of fresh asks that is answered differently, or None."""
    for fresh in range(most + 1):
        if differs(one, other, pair, fresh):
            return fresh
    return None


def differs(one, other, pair, fresh):
    """Tell whether a beat has different numbers of answered ones."""
    return step(one, pair[0], fresh)[1] != step(other, pair[1], fresh)[1]
