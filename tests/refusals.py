"""What several functions refuse alike, and in which order."""

import copy

from comesback.errors import NoMost, NoSetting, NoState, NoSteady

from tests.model import PLAIN, deep, kinds_of, strange_values

FIRST = (0, (), ((0,),), 0, 0)
NO_SETTINGS = tuple(strange_values()) + (
    list(PLAIN), PLAIN[:8], PLAIN + (None,), (True,) + PLAIN[1:], (0,) + PLAIN[1:],
    PLAIN[:6] + (0, None, None), PLAIN[:8] + ([1, 1],),
)
NO_DIGITS = (
    True, False, None, 0, 10, -1, 11, 10 ** 12 - 1, -10 ** 12 + 1, "", "1", "9", (), (1,), [], [1],
    {}, {1: 1}, deep(40, list), deep(40, tuple), deep(40, dict),
)
NO_STATES = tuple(strange_values()) + (
    list(FIRST), FIRST[:4], FIRST + (0,), (0, [], ((0,),), 0, 0), (0, (), [(0,)], 0, 0),
    (0, (), ([0],), 0, 0), (False, (), ((0,),), 0, 0), (0, (), ((False,),), 0, 0),
    (0, (), ((0,),), False, 0), (0, (), ((0,),), 0, False), (0, (), ((0,), (0,)), 0, 0),
    (0, (), ((0, 0),), 0, 0), (0, (), ((-1,),), 0, 0), (1, (), ((0,),), 0, 0),
    (0, ((1, 1),) * 4, ((0,),), 0, 0), (0, ([1, 1],), ((0,),), 0, 0), (0, ((1, 2),), ((0,),), 0, 0),
    (0, ((True, 1),), ((0,),), 0, 0), (0, (), ((0,),), 1, 0), (0, (), ((0,),), 0, 1),
)


def refuse_in_order(test, call, kinds):
    """Each argument of kinds alone, and with all behind it wrong, raises its own error.

    kinds are pairs (good, (error, wrongs)), in the order of the interface;
    error is None for an argument of which any value will do.
    """
    for place, (_, (error, wrongs)) in enumerate(kinds):
        for wrong in wrongs if error is not None else ():
            ahead = [good for good, _ in kinds[:place]]
            for behind in ([good for good, _ in kinds[place + 1:]],
                           [wrongs[0] for _, (_, wrongs) in kinds[place + 1:]]):
                with test.subTest(place=place, wrong=str(wrong)[:80]):
                    with test.assertRaises(error):
                        call(*ahead, wrong, *behind)


SETTING_KIND = (PLAIN, (NoSetting, NO_SETTINGS))
STEADY_KIND = (2, (NoSteady, NO_DIGITS))
STATE_KIND = (FIRST, (NoState, NO_STATES))
MOST_KIND = (3, (NoMost, NO_DIGITS + (1,)))
ANY_KIND = (None, (None, (None,)))


def check_calls(test, call, names, values):
    """Called by place, by names in the other order and again: equal, and nothing is changed."""
    before = copy.deepcopy(values)
    told = call(*values)
    backwards = dict(reversed(list(zip(names, values))))
    test.assertEqual(kinds_of(call(**backwards)), kinds_of(told))
    test.assertEqual(kinds_of(call(*values)), kinds_of(told))
    test.assertEqual(values, before)
    test.assertEqual(repr(values), repr(before))
    return told
