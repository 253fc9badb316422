"""How much may come in: the steady inflow, and the most fresh asks in a beat."""

from comesback.errors import NoMost, NoSteady
from comesback.kinds import is_within
from comesback.settings import check_setting, check_state

GREATEST = 9


def check_steady(setting, steady):
    """Raise NoSetting, or else NoSteady for what is not a steady inflow."""
    check_setting(setting)
    if not is_within(steady, 1, GREATEST):
        raise NoSteady("this is not an integer from 1 to 9")


def check_start(setting, steady, state):
    """Raise NoSetting or NoSteady, or else NoState for what is not a state of the setting."""
    check_steady(setting, steady)
    check_state(setting, state)


def check_most(most, least):
    """Raise NoMost for what is not a most that is least or more."""
    if not is_within(most, least, GREATEST):
        raise NoMost(f"this is not an integer from {least} to {GREATEST}")


def check_inflow(setting, most):
    """Raise NoSetting, or else NoMost for what is not the most fresh asks in a beat."""
    check_setting(setting)
    check_most(most, 1)
