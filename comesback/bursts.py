"""From which bursts a service does not come back."""

from comesback.calm import fates
from comesback.inflows import check_start
from comesback.ways import behind


def bursts(setting, steady, state):
    """Return the spans (first, last) of those k that the service does not come back from."""
    check_start(setting, steady, state)
    states = [behind(setting, state, steady + k) for k in range(last_k(setting, steady) + 1)]
    found = fates(setting, steady, states)
    return spans([found[one] is None for one in states])


def last_k(setting, steady):
    """Return a k from which on all bursts end alike."""
    _, room, _, tries, _, _, _, _, _ = setting
    return max(0, tries * room + 3 - steady)


def spans(downs):
    """Return the spans of the places of True, the last without an end if it reaches the end."""
    found = []
    first = None
    for k, down in enumerate(downs):
        if down and first is None:
            first = k
        if not down and first is not None:
            found.append((first, k - 1))
            first = None
    if first is not None:
        found.append((first, None))
    return tuple(found)
