import itertools
import random
import unittest

from comesback import cures as cures_file
from comesback.beats import beat, totals
from comesback.calm import stays
from comesback.cures import cure, shows_cure
from comesback.errors import NoRow, TooMany
from comesback.settings import first_state

from tests.model import kinds_of, some_plain_setting, some_state, strange_values
from tests.refusals import (
    ANY_KIND, SETTING_KIND, STATE_KIND, STEADY_KIND, check_calls, refuse_in_order,
)
from tests.slow import (
    slow_cure, slow_down, slow_first, slow_next, slow_prices_hold, slow_reach, slow_run,
)

EXAMPLE = (2, 4, 1, 2, 1, "oldest", True, None, None)
EXAMPLE_STATE = (2, (), ((2,),), 0, 0)

# Each with a setting, a steady inflow, a state, k and the row.
CURES = (
    (EXAMPLE, 1, EXAMPLE_STATE, 1, (1, 0)),
    ((1, 2, 1, 1, 1, "oldest", True, None, None), 1, (1, (), ((),), 0, 0), 1, (0,)),
    # Several rows turn away as many in as few beats: the first one of them.
    ((2, 5, 1, 1, 3, "oldest", True, None, None), 2, (5, (), ((), (), ()), 0, 0), 3, (2, 0, 1)),
    ((2, 5, 1, 2, 1, "newest", True, None, None), 2, (3, (), ((3,),), 0, 0), 5, (0, 0, 1)),
    ((3, 4, 2, 2, 1, "newest", True, None, None), 3, (1, ((1, 1), (0, 1)), ((3,),), 0, 0), 4, (0, 2)),
    # Fewer beats would do if more were turned away.
    ((2, 3, 1, 1, 1, "oldest", True, 0, None), 2, (2, (), ((),), 0, 0), 1, (2, 1)),
    ((1, 4, 1, 1, 1, "oldest", True, 0, (1, 1)), 2, (2, (), ((),), 0, 0), 2, (1, 2, 1)),
    ((1, 4, 2, 1, 1, "newest", True, 1, (1, 1)), 1, (2, ((0, 1),), ((),), 0, 0), 2, (1, 1, 0, 0)),
    ((3, 1, 3, 2, 2, "oldest", True, 3, (1, 1)), 1, (0, ((1, 1),), ((1,), (0,)), 3, 0),
     1, (1, 1, 1, 1, 1, 1, 1, 0)),
    ((2, 3, 4, 2, 3, "oldest", True, 1, (3, 1)), 2, (2, ((1, 1),), ((4,), (0,), (2,)), 1, 0),
     3, (2, 2, 1, 1, 1)),
    ((1, 4, 4, 1, 3, "newest", True, None, (1, 1)), 1, (1, ((0, 2), (0, 1)), ((), (), ()), 0, 0),
     2, (0, 1, 1, 0)),
    # Nobody answered is no cure: nothing may come for a while.
    ((1, 4, 1, 1, 1, "oldest", True, None, None), 1, (4, (), ((),), 0, 0), 3, (1, 0, 0, 0)),
    ((1, 1, 1, 3, 3, "newest", False, None, (3, 3)), 1, (0, (), ((4, 0), (2, 0), (3, 1)), 0, 3),
     4, (0, 0, 0, 1, 1, 0)),
    ((1, 2, 1, 3, 2, "newest", True, None, (1, 1)), 1, (0, (), ((0, 0), (4, 2)), 0, 0),
     2, (1, 1, 1, 1, 1, 1, 1, 1, 0, 1, 0)),
    # It comes back anyway.
    (EXAMPLE, 1, (0, (), ((0,),), 0, 0), 0, ()),
    (EXAMPLE, 1, (1, (), ((0,),), 0, 0), 0, ()),
    (EXAMPLE, 3, (2, (), ((3,),), 0, 0), 0, ()),
    ((3, 5, 1, 2, 1, "newest", False, 4, (1, 3)), 1, (0, (), ((0,),), 3, 2), 0, ()),
    # It comes back anyway, and would not if some were turned away.
    ((1, 3, 2, 1, 1, "newest", False, None, None), 3, (0, (), ((),), 0, 0), 0, ()),
    ((1, 3, 2, 1, 2, "newest", False, 2, None), 3, (0, ((0, 1), (0, 1)), ((), ()), 2, 0), 0, ()),
)
# Each with a setting, a steady inflow and a state from which 2,000 or 2,001 states are reached.
JUST_FEW = (
    ((3, 2, 4, 2, 3, "oldest", True, 4, (1, 3)), 4, (1, (), ((0,), (0,), (3,)), 4, 1)),
    ((1, 5, 3, 2, 2, "oldest", True, 4, (3, 1)), 2, (2, (), ((4,), (1,)), 3, 0)),
)
JUST_MANY = (
    ((3, 4, 2, 2, 3, "oldest", False, 4, (1, 3)), 4, (0, ((1, 1),), ((0,), (3,), (2,)), 1, 3)),
    ((1, 3, 2, 2, 3, "oldest", False, 3, (1, 2)), 4, (0, (), ((0,), (0,), (0,)), 3, 0)),
)


def turned(steady, row):
    return sum(steady - let_in for let_in in row)


class Cure(unittest.TestCase):
    def test_the_example(self):
        told = cure(EXAMPLE, 1, EXAMPLE_STATE)
        self.assertEqual(told[:3], ("cure", 1, (1, 0)))
        self.assertEqual(kinds_of(told[:3]), kinds_of(("cure", 1, (1, 0))))
        self.assertEqual(len(told), 4)

    def check(self, setting, steady, state, wanted):
        told = cure(setting, steady, state)
        self.assertEqual(told[:3], wanted, (setting, steady, state))
        self.assertEqual(kinds_of(told[:3]), kinds_of(wanted))
        self.check_prices(setting, steady, state, told)
        self.assertIs(shows_cure(setting, steady, state, told), True)

    def check_prices(self, setting, steady, state, told):
        self.assertEqual(len(told), 4)
        _, k, _, prices = told
        self.assertIs(type(prices), tuple)
        self.assertEqual(prices, tuple(sorted(prices)))
        for pair in prices:
            self.assertEqual((type(pair), len(pair), type(pair[1])), (tuple, 2, int))
            self.assertGreaterEqual(pair[1], 0)
        self.assertTrue(slow_prices_hold(setting, steady, state, k, prices), (setting, steady, state))

    def test_the_table(self):
        for setting, steady, state, k, row in CURES:
            with self.subTest(setting=setting, steady=steady, state=state):
                self.check(setting, steady, state, ("cure", k, row))

    def test_the_table_row_by_row(self):
        """Of all rows up to this length: none turns away fewer, and the first one that turns away k."""
        for setting, steady, state, k, row in CURES:
            if (steady + 1) ** len(row) < 5000:
                rows = [some for many in range(len(row) + 1)
                        for some in itertools.product(range(steady + 1), repeat=many)]
                fits = [some for some in rows if not slow_down(setting, steady, slow_run(setting, state, some))]
                self.assertEqual(min(turned(steady, some) for some in fits), k)
                least = [some for some in fits if turned(steady, some) == k]
                self.assertEqual(min(least, key=lambda some: (len(some), some)), row)

    def test_0_and_no_row_just_where_it_comes_back_anyway(self):
        dice = random.Random(40)
        seen = [0, 0]
        while min(seen) < 40:
            setting, steady = some_plain_setting(dice), dice.choice((1, 1, 2))
            state = some_state(dice, setting)
            if slow_reach(setting, state, steady, 300) is not None:
                told = cure(setting, steady, state)
                anyway = stays(setting, steady, state)[0] == "back"
                seen[anyway] += 1
                self.assertEqual(told[1] == 0, anyway)
                self.assertEqual(told[2] == (), anyway)

    def test_as_the_slow_model_tells(self):
        dice = random.Random(41)
        seen = {"down": 0, "long": 0, "much": 0, "great": 0}
        for _ in range(2500):
            setting, steady = some_plain_setting(dice), dice.choice((1, 1, 1, 2, 2, 3, 6))
            state = some_state(dice, setting)
            if slow_down(setting, steady, state) and slow_reach(setting, state, steady, 250) is not None:
                wanted = slow_cure(setting, steady, state)
                self.check(setting, steady, state, wanted)
                seen["down"] += 1
                seen["long"] += len(wanted[2]) > 4
                seen["much"] += wanted[1] > 4
                seen["great"] += steady > 2
        self.assertGreater(min(seen.values()), 10, seen)

    def test_where_it_comes_back_anyway_the_prices_show_it(self):
        dice = random.Random(42)
        seen = {"none": 0, "some": 0}
        for _ in range(400):
            setting = some_plain_setting(dice)
            setting = setting[:3] + (dice.randint(1, 2),) + setting[4:]
            steady, state = setting[0] + dice.randint(0, 2), some_state(dice, setting)
            if not slow_down(setting, steady, state) and slow_reach(setting, state, steady, 250) is not None:
                self.check(setting, steady, state, ("cure", 0, ()))
                downs = [one for one in slow_reach(setting, state, steady) if slow_down(setting, steady, one)]
                seen["some" if downs else "none"] += 1
        self.assertGreater(min(seen.values()), 5, seen)

    def test_2000_states_are_not_too_many(self):
        for setting, steady, state in JUST_FEW:
            found = slow_reach(setting, state, steady, 2500)
            self.assertEqual(len(found), 2000)
            self.check(setting, steady, state, ("cure", 0, ()))
            self.assertEqual(len(cure(setting, steady, state)[3]), 2000)

    def test_2001_states_are_too_many_whatever_it_would_find(self):
        for setting, steady, state in JUST_MANY:
            self.assertEqual(len(slow_reach(setting, state, steady, 2500)), 2001)
            self.assertEqual(stays(setting, steady, state)[0], "back")
            with self.assertRaises(TooMany) as caught:
                cure(setting, steady, state)
            self.assertEqual(kinds_of(caught.exception.limit), kinds_of(2000))

    def test_a_greater_inflow_may_lead_to_too_many(self):
        setting = (3, 4, 4, 3, 3, "oldest", True, None, None)
        state = first_state(setting)
        self.assertEqual(cure(setting, 1, state)[:3], ("cure", 0, ()))
        with self.assertRaises(TooMany) as caught:
            cure(setting, 9, state)
        self.assertEqual(caught.exception.limit, 2000)

    def test_too_many_from_a_state_that_stays_down(self):
        setting = (3, 4, 4, 3, 3, "oldest", True, None, None)
        state = (4, (), ((5, 5), (5, 5), (5, 5)), 0, 0)
        self.assertEqual(stays(setting, 3, state)[0], "down")
        self.assertIsNone(slow_reach(setting, state, 3, 2000))
        self.assertRaises(TooMany, cure, setting, 3, state)

    def test_very_many_that_ask_again(self):
        crowd = 10 ** 12 - 1
        setting = (2, 4, 1, 2, 1, "oldest", True, None, None)
        told = cure(setting, 1, (4, (), ((crowd,),), 0, 0))
        self.assertEqual(told[:3], cure(setting, 1, (4, (), ((99,),), 0, 0))[:3])
        self.assertGreater(told[1], 0)
        self.assertIs(shows_cure(setting, 1, (4, (), ((crowd,),), 0, 0), told), True)

    def test_wrong_arguments(self):
        refuse_in_order(self, cure, (SETTING_KIND, STEADY_KIND, STATE_KIND))

    def test_calls(self):
        names = ("setting", "steady", "state")
        for setting, steady, state, k, row in CURES[:6]:
            told = check_calls(self, cure, names, (setting, steady, state))
            self.assertEqual(told[:3], ("cure", k, row))

    def test_defined_in_its_file(self):
        for call in (cure, shows_cure):
            self.assertEqual(call.__module__, cures_file.__name__)


class ShowsCure(unittest.TestCase):
    def shown(self, wanted, *arguments):
        self.assertIs(shows_cure(*arguments), wanted, arguments)

    def cases(self):
        for setting, steady, state, k, row in CURES:
            yield (setting, steady, state), k, row, cure(setting, steady, state)[3]

    def priced(self, wanted, case, k, row, prices):
        self.shown(wanted, *case, ("cure", k, row, tuple(prices)))

    def test_what_cure_tells(self):
        for case, k, row, prices in self.cases():
            self.priced(True, case, k, row, prices)

    # Prices

    def test_in_any_order(self):
        for case, k, row, prices in self.cases():
            self.priced(True, case, k, row, prices[::-1])
            self.priced(True, case, k, row, random.Random(43).sample(prices, len(prices)))

    def test_each_price_changed_alone(self):
        seen = {"lower": 0, "too low": 0, "too high": 0}
        for case, k, row, prices in self.cases():
            for place, (state, price) in enumerate(prices):
                for other in {0, price - 1, price + 1, price + 100}:
                    if other >= 0 and other != price:
                        changed = prices[:place] + ((state, other),) + prices[place + 1:]
                        wanted = slow_prices_hold(*case, k, changed)
                        self.priced(wanted, case, k, row, changed)
                        # What cure tells is the most that prices can be.
                        self.assertFalse(wanted and other > price)
                        seen["too high"] += other > price
                        seen["lower" if wanted else "too low"] += other < price
        self.assertGreater(min(seen.values()), 10, seen)

    def test_prices_above_some_number_lowered_to_it(self):
        seen = {True: 0, False: 0}
        for case, k, row, prices in self.cases():
            for cap in range(k + 5):
                changed = tuple((state, min(price, cap)) for state, price in prices)
                self.assertEqual(slow_prices_hold(*case, k, changed), cap >= k)
                self.priced(cap >= k, case, k, row, changed)
                seen[cap >= k] += changed != prices
        self.assertGreater(min(seen.values()), 3, seen)

    def test_all_prices_lowered(self):
        for case, k, row, prices in self.cases():
            lowered = [(state, max(0, price - 1)) for state, price in prices]
            self.priced(k == 0, case, k, row, lowered)
            self.priced(k == 0, case, max(0, k - 1), row, lowered)

    def test_further_states(self):
        tried = 0
        for case, k, row, prices in self.cases():
            setting, steady, _ = case
            dice = random.Random(45)
            for _ in range(12):
                other = some_state(dice, setting)
                if other not in dict(prices) and slow_reach(setting, other, steady, 400) is not None:
                    more = dict(cure(setting, steady, other)[3])
                    more.update(prices)
                    self.priced(True, case, k, row, more.items())
                    free = [(one, price if one in dict(prices) else 0) for one, price in more.items()]
                    self.priced(slow_prices_hold(*case, k, free), case, k, row, free)
                    del more[other]
                    self.priced(slow_prices_hold(*case, k, tuple(more.items())), case, k, row, more.items())
                    self.priced(False, case, k, row, prices + ((other, 10 ** 12 - 1),))
                    tried += 1
        self.assertGreater(tried, 50)

    def test_further_states_that_are_not_closed(self):
        first = first_state(EXAMPLE)
        case = (EXAMPLE, 1, first)
        self.priced(True, case, 0, (), ((first, 0),))
        self.priced(False, case, 0, (), ((first, 0), ((3, (), ((0,),), 0, 0), 0)))
        self.priced(False, case, 0, (), ((first, 0), ((0, (), ((1,),), 0, 0), 0), ((3, (), ((0,),), 0, 0), 0)))
        self.priced(True, case, 0, (), ((first, 0), ((0, (), ((1,),), 0, 0), 0)))

    def test_without_any_of_them(self):
        for case, k, row, prices in self.cases():
            for place in range(len(prices)):
                fewer = prices[:place] + prices[place + 1:]
                self.priced(slow_prices_hold(*case, k, fewer), case, k, row, fewer)
                self.priced(False, case, k, row, fewer)
            self.priced(False, case, k, row, ())

    def test_a_price_that_is_not_0_where_it_comes_back(self):
        # Prices of 1 for all states of a closed part from which it comes back anyway:
        # none is above what follows, and yet they show nothing.
        first = first_state(EXAMPLE)
        self.priced(False, (EXAMPLE, 1, first), 1, (0,), ((first, 1),))
        self.priced(False, (EXAMPLE, 1, first), 0, (), ((first, 1),))
        for case, k, row, prices in self.cases():
            raised = [(state, price + 1) for state, price in prices]
            self.priced(False, case, k, row, raised)
            self.priced(False, case, k + 1, (case[1],) * 40 + row + (case[1] - 1,), raised)

    def test_the_own_price_is_k(self):
        for case, k, row, prices in self.cases():
            setting, steady, state = case
            # One more is turned away, and it comes back all the same: a row, but not the least.
            longer = next(some for some in (row + (steady,) * many + (steady - 1,) for many in range(60))
                          if not slow_down(setting, steady, slow_run(setting, state, some)))
            self.priced(False, case, k + 1, longer, prices)
            self.priced(False, case, k + 1, longer, [(one, price + (one == state)) for one, price in prices])
            self.priced(False, case, k, longer, prices)
            for other in (k + 1, k - 1, k + 2, 99):
                self.priced(False, case, other, row, prices)

    def test_prices_of_other_kinds(self):
        for case, k, row, prices in self.cases():
            for place, (state, price) in enumerate(prices):
                for other in (price == 1, True, False, None, -1, -price - 1, str(price), (price,), [price], {}, {1: 2}):
                    self.priced(False, case, k, row, prices[:place] + ((state, other),) + prices[place + 1:])

    def test_pairs_of_other_forms(self):
        for case, k, row, prices in self.cases():
            state, price = prices[-1]
            for pair in ([state, price], (state,), (state, price, 0), (price, state), state, price, (), None, True,
                         (list(state), price), (state[:4], price), (state + (0,), price),
                         (state[:4] + (bool(state[4]),), price), ((state[0], list(state[1])) + state[2:], price),
                         (state[:2] + (list(state[2]),) + state[3:], price), (None, price), ({}, price)):
                self.priced(False, case, k, row, prices[:-1] + (pair,))
                self.priced(False, case, k, row, prices + (pair,))

    def test_a_state_twice(self):
        for case, k, row, prices in self.cases():
            for state, price in prices:
                self.priced(False, case, k, row, prices + ((state, price),))
                self.priced(False, case, k, row, ((state, 0),) + prices)

    def test_states_of_another_setting(self):
        for case, k, row, prices in self.cases():
            self.priced(False, case, k, row, prices + (((0, (), ((0, 0), (0, 0), (0, 0)), 4, 3), 0),))

    def test_more_than_2000_states(self):
        for setting, steady, state in JUST_MANY:
            found = slow_reach(setting, state, steady, 2500)
            # With 4 asks in each beat all of these come back.
            self.assertFalse(any(slow_down(setting, steady, one) for one in found))
            prices = tuple((one, 0) for one in found)
            self.priced(True, (setting, steady, state), 0, (), prices)
            self.priced(False, (setting, steady, state), 0, (), prices[1:])
            self.priced(False, (setting, steady, state), 0, (), prices[:-1])

    # Rows

    def test_other_rows_that_turn_away_as_many(self):
        seen = {True: 0, False: 0}
        for case, k, row, prices in self.cases():
            setting, steady, state = case
            longest = next(many for many in range(9, 0, -1) if (steady + 1) ** many < 600)
            for many in range(longest + 1):
                for some in itertools.product(range(steady + 1), repeat=many):
                    back = not slow_down(setting, steady, slow_run(setting, state, some))
                    wanted = back and turned(steady, some) == k
                    seen[wanted] += 1
                    self.priced(wanted, case, k, some, prices)
                    if turned(steady, some) != k:
                        self.priced(False, case, turned(steady, some), some, prices)
        self.assertGreater(min(seen.values()), 100, seen)

    def test_longer_rows(self):
        for case, k, row, prices in self.cases():
            setting, steady, state = case
            self.priced(True, case, k, row + (steady,), prices)
            self.priced(True, case, k, row + (steady,) * 300, prices)
            self.priced(True, case, k, row + (steady,) * 5000, prices)
            for ahead in (1, 2, 300):
                some = (steady,) * ahead + row
                back = not slow_down(setting, steady, slow_run(setting, state, some))
                self.priced(back, case, k, some, prices)
            # The function run would refuse it.
            with self.assertRaises(NoRow):
                totals(setting, state, row + (steady,) * 300)

    def test_rows_that_turn_away_k_and_behind_which_it_stays_down(self):
        self.priced(False, (EXAMPLE, 1, EXAMPLE_STATE), 1, (0, 1), cure(EXAMPLE, 1, EXAMPLE_STATE)[3])
        self.priced(False, (EXAMPLE, 1, EXAMPLE_STATE), 1, (0,), cure(EXAMPLE, 1, EXAMPLE_STATE)[3])
        for case, k, row, prices in self.cases():
            setting, steady, state = case
            for place in range(len(row)):
                some = row[:place] + (steady,) * (len(row) - place)
                if turned(steady, some) < k:
                    self.assertTrue(slow_down(setting, steady, slow_run(setting, state, some)))
                    self.priced(False, case, k, some, prices)
                    self.priced(False, case, turned(steady, some), some, prices)

    def test_more_let_in_than_the_inflow(self):
        for case, k, row, prices in self.cases():
            setting, steady, state = case
            # One more and one fewer turn away as many together.
            for some in ((steady + 1, steady - 1) + row, row + (steady + 1, steady - 1),
                         row + (steady - 1, steady + 1), row + (steady, steady + 1, steady - 1)):
                self.assertEqual(turned(steady, some), k)
                self.priced(False, case, k, some, prices)
            self.priced(False, case, k - 1, row + (steady + 1,), prices)

    def test_fewer_let_in_than_none(self):
        setting, steady, state, k, row = CURES[11]
        prices = cure(setting, steady, state)[3]
        self.priced(True, (setting, steady, state), k, row, prices)
        self.priced(False, (setting, steady, state), k, (1, 1, -1, 0), prices)
        self.priced(False, (setting, steady, state), k, (1, -1, 0, 1), prices)

    def test_numbers_of_other_kinds(self):
        for case, k, row, prices in self.cases():
            steady = case[1]
            for wrong in (None, "1", str(steady), (steady,), [steady], {}, True, False, 10 ** 12 - 1, -1):
                self.priced(False, case, k, row + (wrong,), prices)
                self.priced(False, case, k, (wrong,) + row, prices)
            for place, let_in in enumerate(row):
                if let_in in (0, 1):
                    self.priced(False, case, k, row[:place] + (bool(let_in),) + row[place + 1:], prices)
            for wrong in (None, str(k), (k,), [k], {}, bool(k), True, False, -k - 1):
                self.priced(False, case, wrong, row, prices)

    # The whole

    def test_lists_for_tuples(self):
        for case, k, row, prices in self.cases():
            for thing in (["cure", k, row, prices], ("cure", k, list(row), prices), ("cure", k, row, list(prices)),
                          ("cure", k, row, dict(prices)), ("cure", k, row, tuple(list(pair) for pair in prices)),
                          ("cure", [k], row, prices)):
                self.shown(False, *case, thing)

    def test_one_part_otherwise(self):
        for case, k, row, prices in self.cases():
            for thing in (("cure", k, row), ("cure", k, row, prices, ()), (k, row, prices), ("Cure", k, row, prices),
                          ("cures", k, row, prices), (None, k, row, prices), (True, k, row, prices),
                          (("cure",), k, row, prices), ("cure", row, k, prices), ("cure", k, prices, row),
                          ("cure", k, None, prices), ("cure", k, row, None), ("cure", k, row, "prices"),
                          ("cure", k, "row", prices), ("cure",), "cure", ("cure", k, row, (prices,)),
                          ("always", k, row, prices), ("down", k, row, prices), (["cure"], k, row, prices)):
                self.shown(False, *case, thing)

    def test_of_another_state_or_inflow(self):
        told = cure(EXAMPLE, 1, EXAMPLE_STATE)
        seen = {True: 0, False: 0}
        for state, price in told[3]:
            wanted = price == 1 and not slow_down(EXAMPLE, 1, slow_run(EXAMPLE, state, (1, 0)))
            seen[wanted] += 1
            self.shown(wanted, EXAMPLE, 1, state, told)
        self.assertGreater(min(seen.values()), 1)
        for steady in range(2, 10):
            self.shown(False, EXAMPLE, steady, EXAMPLE_STATE, told)

    def test_values_that_are_nothing_of_the_kind(self):
        for value in strange_values() + [TooMany(3), NoRow("no"), NoRow, cure]:
            for thing in (value, (value,) * 4, ("cure", value, (), ()), ("cure", 0, value, ()), ("cure", 0, (), value),
                          ("cure", 0, (), (value,)), ("cure", 0, (value,), ()), ("cure", 0, (), ((value, 0),)),
                          ("cure", 0, (), ((first_state(EXAMPLE), value),)), (value, 0, (), ())):
                # Where value is 0 the prices of the first state are as they should be.
                wanted = thing == ("cure", 0, (), ((first_state(EXAMPLE), 0),)) and value is not False
                self.shown(wanted, EXAMPLE, 1, first_state(EXAMPLE), thing)
                self.shown(False, EXAMPLE, 1, EXAMPLE_STATE, thing)

    def test_wrong_arguments(self):
        refuse_in_order(self, shows_cure, (SETTING_KIND, STEADY_KIND, STATE_KIND, ANY_KIND))

    def test_calls(self):
        names = ("setting", "steady", "state", "thing")
        told = cure(EXAMPLE, 1, EXAMPLE_STATE)
        self.assertIs(check_calls(self, shows_cure, names, (EXAMPLE, 1, EXAMPLE_STATE, told)), True)
        for thing in (["cure", 1, [1, 0], [[1]]], {"cure": [1, {2: 3}]}, ("cure", 1, (1, 0), [{}, []])):
            self.assertIs(check_calls(self, shows_cure, names, (EXAMPLE, 1, EXAMPLE_STATE, thing)), False)


if __name__ == "__main__":
    unittest.main()
