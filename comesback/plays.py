"""One ask of a tree, as it goes when it is known which decisions fail."""


class Play:
    """What happens as a tree is called: who is asked, who decides, what is kept."""

    def __init__(self, plan, fails):
        self.left, self.keeps = plan
        self.fails = {one: True for one in fails}
        self.kept = {}
        self.asks = []
        self.deciders = []

    def ask(self, call):
        """Make a call, and return whether it answers."""
        service, tries, _, _ = call
        if service in self.kept:
            return True
        for made in range(tries):
            if made > 0 and not self.pay():
                return False
            if self.attempt(call):
                if self.keeps:
                    self.kept[service] = True
                return True
        return False

    def pay(self):
        """Take one away from the budget for a further attempt; tell whether there was one."""
        if self.left is None:
            return True
        if self.left == 0:
            return False
        self.left = self.left - 1
        return True

    def attempt(self, call):
        """Make one attempt of a call, and return whether it answers."""
        service, _, mode, parts = call
        self.asks.append(service)
        if not self.parts_let(mode, parts):
            return False
        self.deciders.append(service)
        return len(self.deciders) - 1 not in self.fails

    def parts_let(self, mode, parts):
        """Call the parts in order, and return whether the attempt comes to its decision."""
        for part in parts:
            answered = self.ask(part)
            if answered != (mode == "all"):
                return answered
        return mode == "all" or not parts
