"""How many asks one ask grows to, and the worst share of answers."""

from math import gcd

from comesback.inflows import check_inflow
from comesback.kinds import are_within, is_number, is_tuple_of
from comesback.pairs import ascending, with_integers
from comesback.quotients import best_round, gain
from comesback.settings import first_state
from comesback.steps import step
from comesback.ways import behind_row, explore, shortest_row

# Which number of what a beat tells is compared with its fresh asks, and
# whether the greatest quotient is looked for, or the smallest.
CAME = (0, 1)
ANSWERED = (1, -1)


def load(setting, most):
    """Return (fraction, way, round, prices) of the most asks at the door for each fresh one."""
    check_inflow(setting, most)
    return best(setting, most, CAME)


def worst(setting, most):
    """Return (fraction, way, round, prices) of the fewest answered ones for each fresh one."""
    check_inflow(setting, most)
    return best(setting, most, ANSWERED)


def shows_load(setting, most, thing):
    """Tell whether thing, any value, shows what load tells."""
    check_inflow(setting, most)
    return shows(setting, most, CAME, thing)


def shows_worst(setting, most, thing):
    """Tell whether thing, any value, shows what worst tells."""
    check_inflow(setting, most)
    return shows(setting, most, ANSWERED, thing)


def best(setting, most, kind):
    """Return (fraction, way, round, prices) for one of the two kinds of quotients."""
    which, sign = kind
    first = first_state(setting)
    graph = explore(setting, first, most)
    states = list(graph)
    places = {state: place for place, state in enumerate(states)}
    leads = [[places[one] for one in graph[state]] for state in states]
    counts = [[step(setting, state, fresh)[which] for fresh in range(most + 1)] for state in states]
    fraction, ring, prices = best_round(leads, counts, sign)
    way = shortest_row(graph, first, states[ring[0][0]])
    # The first state has the first place.
    pairs = ascending({state: prices[place] - prices[0] for state, place in places.items()})
    return (fraction, way, tuple([fresh for _, fresh in ring]), pairs)


def shows(setting, most, kind, thing):
    """Tell whether thing shows the best quotient of this kind."""
    if not is_tuple_of(thing, 4):
        return False
    fraction, way, row, pairs = thing
    if not is_fraction(fraction) or not are_within(way, 0, most) or not are_within(row, 0, most):
        return False
    if not is_round(setting, kind[0], fraction, way, row):
        return False
    prices = with_integers(setting, pairs)
    return prices is not None and are_prices(setting, most, kind, fraction, prices)


def is_fraction(thing):
    """Tell whether thing is a fraction (p, q) in lowest terms, not below 0."""
    if not is_tuple_of(thing, 2):
        return False
    p, q = thing
    return is_number(p) and is_number(q) and p >= 0 and q >= 1 and gcd(p, q) == 1


def is_round(setting, which, fraction, way, row):
    """Tell whether the row leads from behind the way back there, with this quotient."""
    start = behind_row(setting, first_state(setting), way)
    state = start
    many = 0
    for fresh in row:
        told = step(setting, state, fresh)
        many = many + told[which]
        state = told[6]
    p, q = fraction
    return state == start and sum(row) > 0 and q * many == p * sum(row)


def are_prices(setting, most, kind, fraction, prices):
    """Tell whether the prices show that no round has a better quotient."""
    which, sign = kind
    if prices.get(first_state(setting)) != 0:
        return False
    for state, price in prices.items():
        for fresh in range(most + 1):
            told = step(setting, state, fresh)
            least = price + gain(fraction, sign, told[which], fresh)
            if told[6] not in prices or prices[told[6]] < least:
                return False
    return True
