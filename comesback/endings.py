"""How a call can end, and with how many asks at most, if some decisions may fail.

Sets of decisions are too many to be gone through. But of a call it matters
only whether it answers, which budget is left then and which services are kept.
"""


def most_asks(tree, plan, failing, service):
    """Return the most asks of the service, and fails that bring them.

    The service is None for all of them; those of failing alone decide to fail.
    """
    most, decisions = Endings(tree, plan, failing, service).best()
    return most, tuple([number for number, fails in enumerate(decisions) if fails])


class Endings:
    """The endings of the calls of a tree, each looked for once.

    A spot is a pair (budget left, services kept). A way is a pair (asks,
    decisions): the asks that are counted, and of each decision whether it
    fails. Ends are a dict of spots with a way to each that has the most asks.
    """

    def __init__(self, tree, plan, failing, counted):
        self.budget, self.keeps = plan
        self.failing = failing
        self.counted = counted
        # Trees may be nested too deep to be keys, so calls go by numbers here.
        self.calls = []
        self.first = self.put_down(tree)
        self.known = {}

    def put_down(self, call):
        """Put down a call behind those within it, and return its number."""
        service, tries, mode, parts = call
        numbers = [self.put_down(part) for part in parts]
        self.calls.append((service, tries, mode, numbers))
        return len(self.calls) - 1

    def best(self):
        """Return a way of the whole tree with the most asks."""
        answered, failed = self.ask(self.first, (self.budget, ()))
        ways = list(answered.values()) + list(failed.values())
        return max(ways, key=lambda way: way[0])

    def ask(self, number, spot):
        """Return two ends of a call from this spot: where it answers, and where it fails."""
        if self.calls[number][0] in spot[1]:
            return {spot: (0, ())}, {}
        if (number, spot) not in self.known:
            self.known[(number, spot)] = self.all_attempts(number, spot)
        return self.known[(number, spot)]

    def all_attempts(self, number, spot):
        """Return the two ends of a call that is not kept."""
        service, tries, _, _ = self.calls[number]
        answered = {}
        failed = {}
        ends = {spot: (0, ())}
        for made in range(tries):
            if made > 0:
                ends = pay(ends, failed)
            further = {}
            for here, way in ends.items():
                good, bad = self.attempt(number, here)
                join(answered, way, self.keep(service, good))
                join(further, way, bad)
            ends = further
        join(failed, (0, ()), ends)
        return answered, failed

    def attempt(self, number, spot):
        """Return two ends of an attempt from this spot: where it answers, and where it fails."""
        service, _, mode, numbers = self.calls[number]
        own = 1 if self.counted is None or self.counted == service else 0
        going = {spot: (own, ())}
        stopped = {}
        for part in numbers:
            further = {}
            for here, way in going.items():
                good, bad = self.ask(part, here)
                join(further, way, good if mode == "all" else bad)
                join(stopped, way, bad if mode == "all" else good)
            going = further
        if mode == "all" or not numbers:
            return self.decide(service, going, stopped)
        return self.decide(service, stopped, going)

    def decide(self, service, deciding, failed):
        """Return the two ends of an attempt that comes to its decision there, or has failed."""
        good = {}
        join_decided(good, deciding, False)
        if service in self.failing:
            join_decided(failed, deciding, True)
        return good, failed

    def keep(self, service, ends):
        """Return the ends with the service kept, where that is the plan."""
        if not self.keeps:
            return ends
        kept = {}
        for spot, way in ends.items():
            left, others = spot
            put(kept, (left, tuple(sorted(set(others + (service,))))), way)
        return kept


def put(ends, spot, way):
    """Put a way into the ends, unless there is one with as many asks."""
    if spot not in ends or ends[spot][0] < way[0]:
        ends[spot] = way


def join(ends, ahead, further):
    """Put into the ends what further has, each behind the way ahead."""
    for spot, way in further.items():
        put(ends, spot, (ahead[0] + way[0], ahead[1] + way[1]))


def join_decided(ends, deciding, fails):
    """Put into the ends those that decide, behind that decision."""
    for spot, way in deciding.items():
        put(ends, spot, (way[0], way[1] + (fails,)))


def pay(ends, failed):
    """Return the ends with one less of the budget; those where none is left have failed."""
    paid = {}
    for spot, way in ends.items():
        left, kept = spot
        if left == 0:
            put(failed, spot, way)
        else:
            paid[(None if left is None else left - 1, kept)] = way
    return paid
