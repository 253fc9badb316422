"""A slow model of trees of calls, and trees to try the program with.

It follows the words of the document one after the other and shares nothing
with the package, so that the two check each other.
"""

import itertools

ALL = (0, 1, 2, 3)
SETS = tuple(some for size in range(5) for some in itertools.combinations(ALL, size))
PLANS = tuple((budget, keeps) for budget in (None, 0, 1, 2, 3, 4) for keeps in (False, True))


def some_tree(dice, most, deep=4, tries=(1, 2, 3), of=ALL, modes=("all", "any")):
    """Any tree of at most so many calls."""
    parts = []
    left = most - 1
    for _ in range(dice.randint(0, 3) if deep > 1 else 0):
        if left > 0:
            part = some_tree(dice, dice.randint(1, left), deep - 1, tries, of, modes)
            parts.append(part)
            left -= slow_calls(part)
    return (dice.choice(of), dice.choice(tries), dice.choice(modes), tuple(parts))


def slow_calls(tree):
    return 1 + sum(map(slow_calls, tree[3]))


def chain(many, service=0, tries=1, mode="all"):
    """So many calls, each within the one before."""
    return (service, tries, mode, (chain(many - 1, service, tries, mode),) if many > 1 else ())


class SlowPlay:
    """One ask of a tree; decide tells, of a number and a service, whether that decision fails."""

    def __init__(self, tree, plan, decide):
        self.budget, self.keeps = plan
        self.decide = decide
        self.answers_of = set()
        self.asks = []
        # Pairs of the service and whether it failed, one for each decision.
        self.decisions = []
        self.answered = self.call(tree)

    def call(self, one):
        service, tries, mode, parts = one
        if self.keeps and service in self.answers_of:
            return True
        attempts = 0
        while True:
            attempts += 1
            self.asks.append(service)
            if mode == "all":
                reached = all(self.call(part) for part in parts)
            else:
                reached = parts == () or any(self.call(part) for part in parts)
            if reached:
                failed = self.decide(len(self.decisions), service)
                self.decisions.append((service, failed))
                if not failed:
                    self.answers_of.add(service)
                    return True
            if attempts == tries:
                return False
            if self.budget is not None:
                if self.budget == 0:
                    return False
                self.budget -= 1


def slow_ran(tree, plan, fails):
    play = SlowPlay(tree, plan, lambda number, service: number in fails)
    return (play.answered, tuple(play.asks))


def slow_fails(tree, plan, fails):
    """The services of the decisions that fail, of those that are made."""
    play = SlowPlay(tree, plan, lambda number, service: number in fails)
    return [service for service, failed in play.decisions if failed]


def slow_plays(tree, plan, failing, limit=None):
    """All plays in which services of failing alone decide to fail, as (fails, answered, asks).

    None if they are more than the limit.
    """
    found = []
    starts = [()]
    while starts:
        start = starts.pop()
        play = SlowPlay(tree, plan, lambda number, service: number in start)
        found.append((start, play.answered, tuple(play.asks)))
        first = start[-1] + 1 if start else 0
        for number in range(first, len(play.decisions)):
            if play.decisions[number][0] in failing:
                starts.append(start + (number,))
        if limit is not None and len(found) + len(starts) > limit:
            return None
    return found


def slow_count(asks, service):
    return len(asks) if service is None else asks.count(service)
