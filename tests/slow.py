"""Slow ways to find out where beats lead, and what shows it.

They follow the words of the document over the slow beat of tests.model and
share nothing with the package, so that the two check each other.
"""

import functools

from tests.model import slow_beat


@functools.lru_cache(maxsize=200000)
def slow_next(setting, state, fresh):
    return slow_beat(setting, state, fresh)[6]


def slow_first(setting):
    tries, wait, tokens = setting[3], setting[4], setting[7]
    return (0, (), ((0,) * (tries - 1),) * wait, tokens or 0, 0)


def slow_run(setting, state, row):
    for fresh in row:
        state = slow_next(setting, state, fresh)
    return state


def slow_lead(setting, steady, state):
    """How many steady beats lead into a round, and the round."""
    seen = []
    while state not in seen:
        seen.append(state)
        state = slow_next(setting, state, steady)
    return seen.index(state), tuple(seen[seen.index(state):])


@functools.lru_cache(maxsize=2000)
def slow_calm(setting, steady):
    return slow_lead(setting, steady, slow_first(setting))


def slow_stays(setting, steady, state):
    calm_states = slow_calm(setting, steady)[1]
    beats, states = slow_lead(setting, steady, state)
    if set(states) & set(calm_states):
        return ("back", beats)
    return ("down", beats, states)


def slow_down(setting, steady, state):
    return slow_stays(setting, steady, state)[0] == "down"


def slow_reach(setting, state, most, limit=10000):
    """All states that rows lead to, each with the first of the shortest rows to it.

    None if they are more than the limit.
    """
    found = {state: ()}
    newest = [()]
    while newest:
        longer = []
        for row in newest:
            for fresh in range(most + 1):
                behind = slow_run(setting, state, row + (fresh,))
                if behind not in found:
                    found[behind] = row + (fresh,)
                    longer.append(row + (fresh,))
        newest = sorted(longer)
        if len(found) > limit:
            return None
    return found


def slow_rows(setting, steady, most):
    found = slow_reach(setting, slow_first(setting), most)
    downs = [row for state, row in found.items() if slow_down(setting, steady, state)]
    if downs:
        row = min(downs, key=lambda row: (len(row), row))
        told = slow_stays(setting, steady, slow_run(setting, slow_first(setting), row))
        return ("down", row) + told[1:]
    return ("always", tuple(sorted((state, slow_stays(setting, steady, state)[1]) for state in found)))


def slow_cure(setting, steady, state):
    """("cure", k, row): labels (turned away, beats, row) are made smaller until none gets smaller."""
    labels = {state: (0, 0, ())}
    changed = {state}
    while changed:
        before, changed = changed, set()
        for one in before:
            turned, beats, row = labels[one]
            for fresh in range(steady + 1):
                behind = slow_next(setting, one, fresh)
                label = (turned + steady - fresh, beats + 1, row + (fresh,))
                if behind not in labels or label < labels[behind]:
                    labels[behind] = label
                    changed.add(behind)
    turned, _, row = min(label for one, label in labels.items() if not slow_down(setting, steady, one))
    return ("cure", turned, row)


def slow_ranks_hold(setting, steady, most, pairs):
    """Whether pairs of states and numbers from 0 on show that rows lead to no harm."""
    ranks = dict(pairs)
    if len(ranks) != len(pairs) or slow_first(setting) not in ranks:
        return False
    for state in ranks:
        for fresh in range(most + 1):
            if slow_next(setting, state, fresh) not in ranks:
                return False
    calm_states = slow_calm(setting, steady)[1]
    for state, rank in pairs:
        if rank == 0 and state not in calm_states:
            return False
        if rank > 0 and not ranks[slow_next(setting, state, steady)] < rank:
            return False
    return True


def slow_prices_hold(setting, steady, state, k, pairs):
    """Whether pairs of states and numbers from 0 on show that fewer than k won't do."""
    prices = dict(pairs)
    if len(prices) != len(pairs) or prices.get(state) != k:
        return False
    for one, price in pairs:
        for fresh in range(steady + 1):
            behind = slow_next(setting, one, fresh)
            if behind not in prices or price > prices[behind] + steady - fresh:
                return False
        if price != 0 and not slow_down(setting, steady, one):
            return False
    return True
