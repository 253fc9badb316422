"""The least that must be turned away so that the service comes back."""

from heapq import heappop, heappush

from comesback.calm import fates
from comesback.inflows import check_start
from comesback.kinds import are_within, is_number, is_tuple_of
from comesback.pairs import ascending, numbered
from comesback.ways import behind_each, behind_row, explore


def cure(setting, steady, state):
    """Return ("cure", k, row, prices): what must be turned away, how, and why no less."""
    check_start(setting, steady, state)
    graph = explore(setting, state, steady)
    found = fates(setting, steady, list(graph))
    costs = cheapest(graph, steady, [one for one in graph if found[one] is not None])
    prices = ascending({one: costs[one][0] for one in graph})
    return ("cure", costs[state][0], cheapest_row(graph, steady, costs, state), prices)


def shows_cure(setting, steady, state, thing):
    """Tell whether thing, any value, shows what cure tells."""
    check_start(setting, steady, state)
    if not is_tuple_of(thing, 4):
        return False
    word, k, row, pairs = thing
    if word != "cure" or not is_number(k) or not are_within(row, 0, steady):
        return False
    if steady * len(row) - sum(row) != k:
        return False
    last = behind_row(setting, state, row)
    if fates(setting, steady, [last])[last] is None:
        return False
    prices = numbered(setting, pairs)
    return prices is not None and prices.get(state) == k and are_prices(setting, steady, prices)


def cheapest(graph, steady, backs):
    """Return how many must be turned away from each state on, and in how many beats at least.

    backs are the states of the graph from which the service comes back anyway.
    """
    before = beats_before(graph, steady)
    costs = {}
    queue = []
    for state in backs:
        heappush(queue, (0, 0, state))
    while queue:
        turned, beats, state = heappop(queue)
        if state not in costs:
            costs[state] = (turned, beats)
            for one, away in before[state]:
                heappush(queue, (turned + away, beats + 1, one))
    return costs


def beats_before(graph, steady):
    """Return, for each state, from which one a beat leads to it, and how many that turns away."""
    before = {state: [] for state in graph}
    for state, states in graph.items():
        for let_in, one in enumerate(states):
            before[one].append((state, steady - let_in))
    return before


def cheapest_row(graph, steady, costs, state):
    """Return the first row that turns away the least, in as few beats as that can be done."""
    row = []
    while costs[state] != (0, 0):
        turned, beats = costs[state]
        let_in = 0
        while costs[graph[state][let_in]] != (turned - steady + let_in, beats - 1):
            let_in = let_in + 1
        row.append(let_in)
        state = graph[state][let_in]
    return tuple(row)


def are_prices(setting, steady, prices):
    """Tell whether nobody can do it with fewer than the price of each state."""
    for state, price in prices.items():
        for let_in, one in enumerate(behind_each(setting, state, steady)):
            if one not in prices or price > prices[one] + steady - let_in:
                return False
    found = fates(setting, steady, list(prices))
    return all([found[state] is None or price == 0 for state, price in prices.items()])
