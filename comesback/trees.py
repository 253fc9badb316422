"""Trees of calls, plans, and what is asked when a tree is called."""

from comesback.errors import NoFails, NoPlan, NoService, NoTree
from comesback.kinds import is_set, is_tuple_of, is_within
from comesback.plays import Play

MODES = ("all", "any")
MOST_PARTS = 3
MOST_CALLS = 12
DEEPEST = 4
LAST_SERVICE = 3
GREATEST_BUDGET = 4


def is_tree(thing):
    """Tell whether thing, any value, is a tree."""
    return is_call(thing, DEEPEST) and how_many(thing) <= MOST_CALLS


def is_call(thing, deep):
    """Tell whether thing is a call that is at most so many calls deep."""
    if deep == 0 or not is_tuple_of(thing, 4):
        return False
    service, tries, mode, parts = thing
    return (
        is_within(service, 0, LAST_SERVICE)
        and is_within(tries, 1, 3)
        and isinstance(mode, str)
        and mode in MODES
        and isinstance(parts, tuple)
        and len(parts) <= MOST_PARTS
        and all([is_call(part, deep - 1) for part in parts])
    )


def is_plan(thing):
    """Tell whether thing, any value, is a plan."""
    if not is_tuple_of(thing, 2):
        return False
    budget, keeps = thing
    return (budget is None or is_within(budget, 0, GREATEST_BUDGET)) and isinstance(keeps, bool)


def calls(tree):
    """Return how many calls the tree has."""
    check_tree(tree)
    return how_many(tree)


def services(tree):
    """Return the set of the services of all calls of the tree."""
    check_tree(tree)
    return tuple(sorted(set(all_services(tree))))


def ran(tree, plan, fails):
    """Return whether the first call answers, and the services in the order in which they are asked."""
    check_tree(tree)
    check_plan(plan)
    if not is_fails(fails):
        raise NoFails("this is not a set of integers from 0 on")
    play = Play(plan, fails)
    answered = play.ask(tree)
    return answered, tuple(play.asks)


def how_many(call):
    """Return how many calls a call is, with those within it."""
    return 1 + sum([how_many(part) for part in call[3]])


def all_services(call):
    """Return the services of a call and of all within it, each as often as it stands there."""
    found = [call[0]]
    for part in call[3]:
        found.extend(all_services(part))
    return found


def is_fails(thing):
    """Tell whether thing is a set of integers from 0 on."""
    return is_set(thing) and all([one >= 0 for one in thing[:1]])


def check_tree(tree):
    """Raise NoTree for what is not a tree."""
    if not is_tree(tree):
        raise NoTree("this is not a tree")


def check_plan(plan):
    """Raise NoPlan for what is not a plan."""
    if not is_plan(plan):
        raise NoPlan("this is not a plan")


def check_service(service):
    """Raise NoService for what is neither a service nor None."""
    if service is not None and not is_within(service, 0, LAST_SERVICE):
        raise NoService("this is neither an integer from 0 to 3 nor None")
