"""The best round of a graph of beats: with the greatest, or the smallest, quotient.

The states of the graph are given by their places. Of each, leads has the
places behind a beat with 0, with 1, .. fresh asks, and counts the numbers that
are compared with these fresh asks. A round is a list of beats (place, fresh).
"""

from math import gcd


def best_round(leads, counts, sign):
    """Return the best quotient of counts and fresh asks, a round with it, and prices of the places.

    The sign is 1 for the greatest quotient and -1 for the smallest.
    """
    ring = round_of_most(leads)
    while True:
        fraction = quotient(counts, ring)
        prices, better = settle(leads, all_gains(counts, fraction, sign))
        if better is None:
            return fraction, ring, prices
        ring = better


def quotient(counts, ring):
    """Return counts and fresh asks of a round as a fraction in lowest terms."""
    many = sum([counts[place][fresh] for place, fresh in ring])
    asks = sum([fresh for _, fresh in ring])
    shared = gcd(many, asks)
    return (many // shared, asks // shared)


def gain(fraction, sign, many, fresh):
    """Return by how much a beat is better than the fraction, below 0 if it is worse."""
    p, q = fraction
    return sign * (q * many - p * fresh)


def all_gains(counts, fraction, sign):
    """Return the gains of all beats, in the form of counts."""
    return [[gain(fraction, sign, many, fresh) for fresh, many in enumerate(line)] for line in counts]


def round_of_most(leads):
    """Return the round that beats with the most fresh asks lead to from the first place."""
    most = len(leads[0]) - 1
    way = {}
    place = 0
    while place not in way:
        way[place] = len(way)
        place = leads[place][most]
    return [(one, most) for one in list(way)[way[place]:]]


def settle(leads, gains):
    """Return prices that no beat raises by its gain, and None; or no such prices, and a better round.

    A round of beats without a fresh ask has only gains of 0: nobody comes in
    it, for whoever comes has one try less behind each time. So a round that
    raises its own prices has fresh asks.
    """
    prices = [0] * len(leads)
    entries = {}
    while raise_prices(leads, gains, prices, entries):
        ring = round_in(entries)
        if ring is not None:
            return None, ring
    return prices, None


def raise_prices(leads, gains, prices, entries):
    """Raise what each beat raises, and put down which one it was; tell whether there was any."""
    raised = False
    for place, line in enumerate(leads):
        for fresh, one in enumerate(line):
            price = prices[place] + gains[place][fresh]
            if price > prices[one]:
                prices[one] = price
                entries[one] = (place, fresh)
                raised = True
    return raised


def round_in(entries):
    """Return a round of beats that were put down, or None."""
    walks = {}
    for start in entries:
        place = start
        while place in entries and place not in walks:
            walks[place] = start
            place = entries[place][0]
        # Only if this walk came to its own track has it gone round.
        if walks.get(place) == start:
            return round_through(entries, place)
    return None


def round_through(entries, place):
    """Return the round of beats that were put down and lead through this place."""
    ring = [entries[place]]
    while ring[-1][0] != place:
        ring.append(entries[ring[-1][0]])
    return ring[::-1]
