"""Beats of a service: one, or those of a row of fresh asks."""

from comesback.errors import NoFresh, NoRow
from comesback.kinds import are_within, is_within
from comesback.settings import check_state
from comesback.steps import step

MOST_FRESH = 999
LONGEST_ROW = 200


def beat(setting, state, fresh):
    """Return (came, answered, wasted, refused, given up, lost, state) of one beat."""
    check_state(setting, state)
    if not is_fresh(fresh):
        raise NoFresh("this is not an integer from 0 to 999")
    return step(setting, state, fresh)


def is_row(thing):
    """Tell whether thing, any value, is a row of fresh asks, of any length."""
    return are_within(thing, 0, MOST_FRESH)


def run(setting, state, row):
    """Return the tuple of what each beat of the row tells."""
    check_state(setting, state)
    check_row(row)
    told = []
    for fresh in row:
        line = step(setting, state, fresh)
        told.append(line)
        state = line[6]
    return tuple(told)


def totals(setting, state, row):
    """Return the six sums over the beats of the row, and the state behind it."""
    told = run(setting, state, row)
    sums = [sum([line[k] for line in told]) for k in range(6)]
    behind = told[-1][6] if told else state
    return (*sums, behind)


def is_fresh(thing):
    """Tell whether thing is a number of fresh asks."""
    return is_within(thing, 0, MOST_FRESH)


def check_row(row):
    """Raise NoRow for what is no row, or one that is too long to be run."""
    if not is_row(row):
        raise NoRow("this is not a row of integers from 0 to 999")
    if len(row) > LONGEST_ROW:
        raise NoRow("this row is too long")
