"""A slow model of trees of calls, and trees to try the program with.

It follows the words of the document one after the other and shares nothing
with the package, so that the two check each other.
"""

import itertools

ALL = (0, 1, 2, 3)
SETS = tuple(some for size in range(5) for some in itertools.combinations(ALL, size))
PLANS = tuple((budget, keeps) for budget in (None, 0, 1, 2, 3, 4) for keeps in (False, True))


def some_tree(dice, most, deep=4, tries=(1, 2, 3), of=ALL, modes=("all", "any")):
    """Any tree of at most so many calls."""
    parts = []
    left = most - 1
    for _ in range(dice.randint(0, 3) if deep > 1 else 0):
        if left > 0:
            part = some_tree(dice, dice.randint(1, left), deep - 1, tries, of, modes)
            parts.append(part)
            left -= slow_calls(part)
    return (dice.choice(of), dice.choice(tries), dice.choice(modes), tuple(parts))


def slow_calls(tree):
    return 1 + sum(map(slow_calls, tree[3]))


def chain(many, service=0, tries=1, mode="all"):
    """So many calls, each within the one before."""
    return (service, tries, mode, (chain(many - 1, service, tries, mode),) if many > 1 else ())


class SlowPlay:
    """One ask of a tree; decide tells, of a number and a service, whether that decision fails."""

    def __init__(self, tree, plan, decide):
        self.budget, self.keeps = plan
        self.decide = decide
        self.answers_of = set()
        self.asks = []
        # Pairs of the service and whether it failed, one for each decision.
        self.decisions = []
        self.answered = self.call(tree)

    def call(self, one):
        service, tries, mode, parts = one
        if self.keeps and service in self.answers_of:
            return True
        attempts = 0
        while True:
            attempts += 1
            self.asks.append(service)
            if mode == "all":
                reached = all(self.call(part) for part in parts)
            else:
                reached = parts == () or any(self.call(part) for part in parts)
            if reached:
                failed = self.decide(len(self.decisions), service)
                self.decisions.append((service, failed))
                if not failed:
                    self.answers_of.add(service)
                    return True
            if attempts == tries:
                return False
            if self.budget is not None:
                if self.budget == 0:
                    return False
                self.budget -= 1


def slow_ran(tree, plan, fails):
    play = SlowPlay(tree, plan, lambda number, service: number in fails)
    return (play.answered, tuple(play.asks))


def slow_fails(tree, plan, fails):
    """The services of the decisions that fail, of those that are made."""
    play = SlowPlay(tree, plan, lambda number, service: number in fails)
    return [service for service, failed in play.decisions if failed]


def slow_plays(tree, plan, failing, limit=None):
    """All plays in which services of failing alone decide to fail, as (fails, answered, asks).

    None if they are more than the limit.
    """
    found = []
    starts = [()]
    while starts:
        start = starts.pop()
        play = SlowPlay(tree, plan, lambda number, service: number in start)
        found.append((start, play.answered, tuple(play.asks)))
        first = start[-1] + 1 if start else 0
        for number in range(first, len(play.decisions)):
            if play.decisions[number][0] in failing:
                starts.append(start + (number,))
        if limit is not None and len(found) + len(starts) > limit:
            return None
    return found


def slow_count(asks, service):
    return len(asks) if service is None else asks.count(service)


def slow_only(tree, plan, failing, service, limit=None):
    """The most asks of any such play, or None if they are more than the limit."""
    plays = slow_plays(tree, plan, failing, limit)
    if plays is None:
        return None
    return max(slow_count(asks, service) for _, _, asks in plays)


def slow_numbers(tree, failing, service, limit=None):
    """What numbers tells, each call gone through by itself; None if that is too much."""
    plays = slow_plays(tree, (None, False), failing, limit)
    parts = tuple(slow_numbers(part, failing, service, limit) for part in tree[3])
    if plays is None or None in parts:
        return None
    ends = {True: [], False: []}
    for _, answered, asks in plays:
        ends[answered].append(slow_count(asks, service))
    return (max(ends[True]), max(ends[False], default=None), parts)


def slow_bounded(call, failing, counted, found):
    """Whether the numbers found, of good kinds, bound each call as [64] says."""
    service, tries, mode, parts = call
    answers, fails = [one[0] for one in found[2]], [one[1] for one in found[2]]
    own = 1 if counted in (None, service) else 0
    if mode == "any" and parts:
        most = max(own + sum(fails[:place]) + answers[place]
                   for place in range(len(parts)) if None not in fails[:place])
        failing_ones = [own + sum(fails)] if None not in fails else []
    else:
        most = own + sum(answers)
        failing_ones = [own + sum(answers[:place]) + fails[place]
                        for place in range(len(parts)) if fails[place] is not None]
    if service in failing:
        failing_ones.append(most)
    if found[0] < most:
        return False
    if failing_ones:
        greatest = max(failing_ones)
        if found[0] < (tries - 1) * greatest + most or found[1] is None or found[1] < tries * greatest:
            return False
    return all(slow_bounded(part, failing, counted, one) for part, one in zip(parts, found[2]))


def slow_shows(tree, failing, service, thing):
    """Whether (most, fails, found), of good kinds, shows what only tells."""
    most, fails, found = thing
    free = (None, False)
    if slow_count(slow_ran(tree, free, fails)[1], service) != most:
        return False
    if not set(slow_fails(tree, free, fails)) <= set(failing):
        return False
    if most < found[0] or found[1] is not None and most < found[1]:
        return False
    return slow_bounded(tree, failing, service, found)


def products(tree):
    """Pairs of a service and the product of the tries on the way to it, one for each call."""
    service, tries, _, parts = tree
    found = [(service, tries)]
    for part in parts:
        found += [(other, tries * product) for other, product in products(part)]
    return found
