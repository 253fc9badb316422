"""Slow ways to find the best quotients of rounds, and settings that are alike.

They follow the words of the document over the slow beat of tests.model and
share nothing with the package.
"""

import fractions
import functools

from tests.model import slow_beat
from tests.slow import slow_first, slow_next, slow_reach, slow_rows, slow_run

CAME, ANSWERED = 0, 1


@functools.lru_cache(maxsize=200000)
def slow_told(setting, state, fresh):
    return slow_beat(setting, state, fresh)


def slow_quotient(setting, most, which, limit=10000):
    """The best quotient of all rounds that are at most as long as there are states.

    A round that goes to no state twice is never longer, and some such round
    is the best. None if there are more states than the limit.
    """
    found = slow_reach(setting, slow_first(setting), most, limit)
    if found is None:
        return None
    pick = max if which == CAME else min
    quotients = []
    for start in found:
        spots = {(start, 0): 0}
        for _ in range(len(found)):
            longer = {}
            for (state, asks), many in spots.items():
                for fresh in range(most + 1):
                    told = slow_told(setting, state, fresh)
                    spot = (told[6], asks + fresh)
                    longer[spot] = pick(longer.get(spot, many + told[which]), many + told[which])
            spots = longer
            quotients.extend(fractions.Fraction(many, asks) for (state, asks), many in spots.items()
                             if state == start and asks > 0)
    best = pick(quotients)
    return best.numerator, best.denominator


def slow_gain(which, fraction, many, fresh):
    """What the price behind a beat must be greater by, at least."""
    p, q = fraction
    return q * many - p * fresh if which == CAME else p * fresh - q * many


def slow_round_holds(setting, which, fraction, way, row):
    """Whether the row goes round behind the way, with a fresh ask and this quotient."""
    start = state = slow_run(setting, slow_first(setting), way)
    many = 0
    for fresh in row:
        many += slow_told(setting, state, fresh)[which]
        state = slow_next(setting, state, fresh)
    return state == start and sum(row) > 0 and fractions.Fraction(many, sum(row)) == fractions.Fraction(*fraction)


def slow_bounds_hold(setting, most, which, fraction, pairs):
    """Whether pairs of states and any numbers show that no round is better."""
    prices = dict(pairs)
    if len(prices) != len(pairs) or prices.get(slow_first(setting)) != 0:
        return False
    for state, price in pairs:
        for fresh in range(most + 1):
            told = slow_told(setting, state, fresh)
            if told[6] not in prices:
                return False
            if not prices[told[6]] >= price + slow_gain(which, fraction, told[which], fresh):
                return False
    return True


def slow_pairs(one, other, most, limit=10000):
    """All pairs of states that rows lead to, each with the first of the shortest rows to it."""
    firsts = (slow_first(one), slow_first(other))
    found = {firsts: ()}
    newest = [()]
    while newest:
        longer = {}
        for row in newest:
            for fresh in range(most + 1):
                further = row + (fresh,)
                pair = (slow_run(one, firsts[0], further), slow_run(other, firsts[1], further))
                if pair not in found:
                    longer[pair] = min(longer.get(pair, further), further)
        found.update(longer)
        newest = list(longer.values())
        if len(found) > limit:
            return None
    return found


def slow_alike(one, other, most, limit=10000):
    """What alike tells, or None if the pairs are more than the limit."""
    found = slow_pairs(one, other, most, limit)
    if found is None:
        return None
    apart = [row + (fresh,) for (first, second), row in found.items() for fresh in range(most + 1)
             if slow_told(one, first, fresh)[1] != slow_told(other, second, fresh)[1]]
    if apart:
        return ("apart", min(apart, key=lambda row: (len(row), row)))
    return ("alike", tuple(sorted(found)))


def slow_good_tokens(setting, steady, most):
    return tuple(tokens for tokens in (None, 0, 1, 2, 3, 4)
                 if slow_rows(setting[:7] + (tokens, setting[8]), steady, most)[0] == "always")
