"""The most asks by any plan, and the budget that keeps them low."""

from comesback.endings import most_asks
from comesback.errors import NoCount, NoPlan
from comesback.kinds import is_within
from comesback.trees import GREATEST_BUDGET, all_services, check_plan, check_service, check_tree

MOST_ASKS = 999


def greatest(tree, plan, service):
    """Return (most, fails): the most asks of the service by the plan, and fails that bring them."""
    check_tree(tree)
    check_plan(plan)
    check_service(service)
    return most_asks(tree, plan, all_services(tree), service)


def needed(tree, keeps, service, most):
    """Return the greatest budget with which there are never more than most asks, or None."""
    check_tree(tree)
    if not isinstance(keeps, bool):
        raise NoPlan("this is not a bool")
    check_service(service)
    if not is_within(most, 0, MOST_ASKS):
        raise NoCount("this is not an integer from 0 to 999")
    failing = all_services(tree)
    for budget in range(GREATEST_BUDGET, -1, -1):
        asks, _ = most_asks(tree, (budget, keeps), failing, service)
        if asks <= most:
            return budget
    return None
