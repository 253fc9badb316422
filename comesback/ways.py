"""Where beats lead: the states behind them, of values that are known to be good."""

from comesback.errors import TooMany
from comesback.steps import step

MOST_STATES = 2000


def behind(setting, state, fresh):
    """Return the state behind one beat."""
    return step(setting, state, fresh)[6]


def behind_row(setting, state, row):
    """Return the state behind a beat for each number of the row."""
    for fresh in row:
        state = behind(setting, state, fresh)
    return state


def behind_each(setting, state, most):
    """Return the states behind one beat with 0, with 1, .. with most fresh asks."""
    return [behind(setting, state, fresh) for fresh in range(most + 1)]


def explore(setting, first, most):
    """Return all states that rows from the first one lead to, each with those behind it."""
    return spread(first, lambda state: behind_each(setting, state, most))


def spread(first, states_behind):
    """Return a dict of all states that the first one leads to, each with those behind it.

    They stand in the order of the first of the shortest rows to each: short
    rows ahead of long ones, and rows of one length as tuples compare.
    """
    graph = {}
    found = [first]
    seen = {first}
    while len(graph) < len(found):
        state = found[len(graph)]
        graph[state] = states_behind(state)
        for one in graph[state]:
            if one not in seen:
                seen.add(one)
                found.append(one)
        if len(found) > MOST_STATES:
            raise TooMany(MOST_STATES)
    return graph


def shortest_row(graph, first, state):
    """Return the first of the shortest rows from the first state of the graph to this one."""
    entries = {}
    for before, states in graph.items():
        for fresh, one in enumerate(states):
            # The graph has short rows first, so whoever leads here first does
            # it by the first of the shortest rows.
            if one not in entries:
                entries[one] = (before, fresh)
    row = []
    while state != first:
        state, fresh = entries[state]
        row.append(fresh)
    return tuple(row[::-1])
