"""What some services can bring about if they alone decide to fail."""

from itertools import combinations

from comesback.endings import most_asks
from comesback.errors import NoCount, NoServices
from comesback.kinds import are_within, is_number, is_set, is_tuple_of, is_within
from comesback.plays import Play
from comesback.trees import LAST_SERVICE, check_service, check_tree, is_fails

FREE = (None, False)
MOST_SERVICES = 4


def only(tree, failing, service):
    """Return (most, fails): the most asks of the service, and fails that bring them."""
    check_all(tree, failing, service)
    return most_asks(tree, FREE, failing, service)


def numbers(tree, failing, service):
    """Return (answered, failed, parts), nested as the tree is: the most asks within each call."""
    check_all(tree, failing, service)
    return bounds(tree, failing, service)


def shows_only(tree, failing, service, thing):
    """Tell whether thing, any value, is (most, fails, found) as only and numbers tell them."""
    check_all(tree, failing, service)
    if not is_tuple_of(thing, 3):
        return False
    most, fails, found = thing
    if not is_number(most) or not is_fails(fails) or not is_nested(tree, found):
        return False
    return (
        brings(tree, failing, service, fails, most)
        and holds(tree, failing, service, found)
        and most >= found[0]
        and (found[1] is None or most >= found[1])
    )


def worst_set(tree, service, many):
    """Return (set, most): the set of at most many services that brings the most asks alone."""
    check_tree(tree)
    check_service(service)
    if not is_within(many, 0, MOST_SERVICES):
        raise NoCount("this is not an integer from 0 to 4")
    best = ((), -1)
    for size in range(many + 1):
        for failing in combinations(range(LAST_SERVICE + 1), size):
            most, _ = most_asks(tree, FREE, failing, service)
            if most > best[1]:
                best = (failing, most)
    return best


def bounds(call, failing, service):
    """Return the numbers of a call, with those of its parts."""
    parts = tuple([bounds(part, failing, service) for part in call[3]])
    decided, failed = attempt_bounds(call, failing, service, parts)
    if failed is None:
        return (decided, None, parts)
    tries = call[1]
    return ((tries - 1) * failed + decided, tries * failed, parts)


def attempt_bounds(call, failing, service, found):
    """Return the most asks of an attempt that comes to its decision, and of one that fails.

    The latter is None if it cannot fail. found are the numbers of the parts.
    """
    own = 1 if service is None or service == call[0] else 0
    decided, failed = all_bounds(own, found) if call[2] == "all" or not found else any_bounds(own, found)
    if call[0] in failing:
        failed = decided if failed is None else max(failed, decided)
    return decided, failed


def all_bounds(own, found):
    """Return the same for "all", but for the decision itself."""
    failed = None
    ahead = own
    for answers, fails, _ in found:
        if fails is not None and (failed is None or ahead + fails > failed):
            failed = ahead + fails
        ahead = ahead + answers
    return ahead, failed


def any_bounds(own, found):
    """Return the same for "any" with parts, but for the decision itself."""
    decided = own + found[0][0]
    ahead = own
    for answers, fails, _ in found:
        decided = max(decided, ahead + answers)
        if fails is None:
            return decided, None
        ahead = ahead + fails
    return decided, ahead


def is_nested(call, thing):
    """Tell whether thing is (answered, failed, parts) of a call, nested as it is."""
    if not is_tuple_of(thing, 3):
        return False
    answered, failed, parts = thing
    return (
        is_number(answered)
        and (failed is None or is_number(failed))
        and is_tuple_of(parts, len(call[3]))
        and all([is_nested(part, one) for part, one in zip(call[3], parts)])
    )


def brings(tree, failing, service, fails, most):
    """Tell whether the fails bring so many asks, by decisions of these services alone."""
    play = Play(FREE, fails)
    play.ask(tree)
    made = len(play.deciders)
    if not all([play.deciders[number] in failing for number in fails if number < made]):
        return False
    return most == len([one for one in play.asks if service is None or service == one])


def holds(call, failing, service, found):
    """Tell whether the numbers of a call, and those within it, bound what can be asked."""
    answered, failed, parts = found
    decides, fails = attempt_bounds(call, failing, service, parts)
    if answered < decides:
        return False
    if fails is not None:
        if failed is None or failed < call[1] * fails or answered < (call[1] - 1) * fails + decides:
            return False
    return all([holds(part, failing, service, one) for part, one in zip(call[3], parts)])


def check_all(tree, failing, service):
    """Raise NoTree, NoServices or NoService for what is no such thing."""
    check_tree(tree)
    if not is_set(failing) or not are_within(failing, 0, LAST_SERVICE):
        raise NoServices("this is not a set of integers from 0 to 3")
    check_service(service)
