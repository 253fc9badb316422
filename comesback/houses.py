"""Services that go on: houses, and houses that are shielded or take notes."""

from comesback.beats import MOST_FRESH, is_fresh
from comesback.errors import NoFresh, NoGate, NothingDone
from comesback.kinds import is_within
from comesback.settings import check_setting, first_state, is_state
from comesback.steps import step


class House:
    """A service that goes on, at first in its first state."""

    def __init__(self, setting):
        check_setting(setting)
        self._setting = setting
        # Of each beat that was not taken back: the fresh asks as they were
        # handed in, and what the function beat tells.
        self._done = []
        # How many fresh asks are let in in a beat; None where all are.
        self._gate = None

    @property
    def setting(self):
        """The setting of the service."""
        return self._setting

    @property
    def state(self):
        """The state that the service is in."""
        return self._done[-1][1][6] if self._done else first_state(self._setting)

    @property
    def beats(self):
        """How many beats there were."""
        return len(self._done)

    @property
    def answered(self):
        """How many were answered in all."""
        return sum([told[1] for _, told in self._done])

    @property
    def lost(self):
        """How many were lost in all."""
        return sum([told[5] for _, told in self._done])

    def beat(self, fresh):
        """Do a beat, and return what the function beat tells, without the state."""
        check_fresh(fresh)
        let_in = fresh if self._gate is None else min(fresh, self._gate)
        told = step(self._setting, self.state, let_in)
        self._done.append((fresh, told))
        return told[:6]

    def __call__(self, fresh):
        """Do a beat, as the method beat does."""
        return self.beat(fresh)

    def run(self, *row):
        """Do a beat for each number, or none at all if one of them is refused."""
        for fresh in row:
            check_fresh(fresh)
        return tuple([self.beat(fresh) for fresh in row])

    def undo(self):
        """Take back the last beat, and return its fresh asks as they were handed in."""
        if not self._done:
            raise NothingDone("there is no beat to take back")
        fresh, _ = self._done.pop()
        return fresh

    def trial(self, work):
        """Call work with the house; if an exception leaves it, all is as it was before."""
        before = list(self._done)
        ended = None
        try:
            result = work(self)
            ended = True
            return result
        finally:
            if ended is None:
                self._done = before

    def _states(self):
        """Return the first state and those behind the beats."""
        return [first_state(self._setting)] + [told[6] for _, told in self._done]

    def __len__(self):
        """How many are in the queue, dead ones too."""
        return len((0,) * self.state[0] + self.state[1])

    def __contains__(self, thing):
        """Whether thing, any value, is the state now or was it before."""
        return is_state(self._setting, thing) and thing in self._states()

    def __eq__(self, other):
        """Whether other is a house of the same class, with the same setting, state and gate."""
        return (
            isinstance(other, House)
            and self.__class__.__name__ == other.__class__.__name__
            and self._setting == other._setting
            and self.state == other.state
            and self._gate == other._gate
        )

    def __repr__(self):
        """The name of the class, with numbers."""
        return "".join([self.__class__.__name__, f"({len(self)} in the queue, {self.beats} beats)"])


class Shielded(House):
    """A house that lets in only so many fresh asks in a beat."""

    def __init__(self, setting, gate):
        House.__init__(self, setting)
        if not is_within(gate, 0, MOST_FRESH):
            raise NoGate("this is not an integer from 0 to 999")
        self._gate = gate

    @property
    def gate(self):
        """How many are let in in a beat, at most."""
        return self._gate

    @property
    def turned(self):
        """How many were turned away in all."""
        return sum([max(0, fresh - self._gate) for fresh, _ in self._done])


class Noted(House):
    """A house that keeps what its beats told."""

    def __init__(self, setting):
        House.__init__(self, setting)

    @property
    def told(self):
        """What beat returned at each beat."""
        return tuple([told[:6] for _, told in self._done])


class NotedShielded(Noted, Shielded):
    """A house that does both."""

    def __init__(self, setting, gate):
        Shielded.__init__(self, setting, gate)


def check_fresh(fresh):
    """Raise NoFresh for what is not a number of fresh asks."""
    if not is_fresh(fresh):
        raise NoFresh("this is not an integer from 0 to 999")
