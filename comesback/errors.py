"""All exceptions of the package."""


class ServeError(ValueError):
    """The base of all exceptions of the package."""


class NoSetting(ServeError):
    """Raised for what is not a setting."""


class NoState(ServeError):
    """Raised for what is not a state of the setting."""


class NoFresh(ServeError):
    """Raised for what is not a number of fresh asks."""


class NoRow(ServeError):
    """Raised for what is not a row of fresh asks, or too long a row."""


class NoSteady(ServeError):
    """Raised for what is not a steady inflow."""


class NoMost(ServeError):
    """Raised for what is not a greatest number that is allowed here."""


class NoTree(ServeError):
    """Raised for what is not a tree of calls."""


class NoPlan(ServeError):
    """Raised for what is not a plan, or not a part of one."""


class NoFails(ServeError):
    """Raised for what is not a set of decisions that fail."""


class NoServices(ServeError):
    """Raised for what is not a set of services."""


class NoService(ServeError):
    """Raised for what is neither a service nor None."""


class NoCount(ServeError):
    """Raised for what is not a count that is allowed here."""


class NoGate(ServeError):
    """Raised for what is not a gate of a house."""


class NoText(ServeError):
    """Raised for what is not the text of a setting."""


class NothingDone(ServeError):
    """Raised where there is no beat to take back."""


class TooMany(ServeError):
    """Raised where more than limit states would have to be looked at."""

    def __init__(self, limit):
        ServeError.__init__(self, f"more than {limit} states")
        self.limit = limit
