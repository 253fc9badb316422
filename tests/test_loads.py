import math
import random
import unittest

from comesback import loads as loads_file
from comesback.errors import NoMost, NoSetting, TooMany
from comesback.loads import load, shows_load, shows_worst, worst
from comesback.settings import first_state

from tests.model import kinds_of, setting_with, some_plain_setting, strange_values
from tests.refusals import ANY_KIND, NO_DIGITS, SETTING_KIND, check_calls, refuse_in_order
from tests.slow import slow_first, slow_next, slow_reach, slow_run
from tests.slow_loads import (
    ANSWERED, CAME, slow_bounds_hold, slow_gain, slow_quotient, slow_round_holds, slow_told,
)

MOST_KIND = (3, (NoMost, NO_DIGITS))
EXAMPLE = (2, 4, 1, 2, 1, "oldest", True, None, None)
# One place, one beat, no second try: of all who come in a beat one is answered.
ONCE = (1, 1, 1, 1, 1, "oldest", False, None, None)
# The same with a second try, with tokens, and with a door that is shut for three beats.
TWICE = (1, 1, 1, 2, 1, "oldest", False, None, None)
NO_TOKENS = (1, 1, 1, 2, 1, "oldest", False, 0, None)
ONE_TOKEN = (1, 1, 1, 3, 1, "oldest", False, 1, None)
SHUT = (1, 1, 1, 1, 1, "oldest", False, None, (1, 3))
WASTED = (1, 4, 1, 1, 2, "oldest", True, None, None)

# Each with a setting, most, and the fractions of load and worst.
BY_HAND = (
    (ONCE, 1, (1, 1), (1, 1)),
    (ONCE, 2, (1, 1), (1, 2)),
    (ONCE, 9, (1, 1), (1, 9)),
    # With one ask in each beat nobody is refused; with two, each comes twice.
    (TWICE, 1, (1, 1), (1, 1)),
    (TWICE, 2, (2, 1), (1, 2)),
    (TWICE, 3, (2, 1), (1, 3)),
    (NO_TOKENS, 1, (1, 1), (1, 1)),
    (NO_TOKENS, 5, (1, 1), (1, 5)),
    # One fresh ask in each beat and the one before it again, by the token of the answer.
    (ONE_TOKEN, 2, (2, 1), (1, 2)),
    (ONE_TOKEN, 9, (2, 1), (1, 9)),
    # One answered, and the others of four beats refused.
    (SHUT, 1, (1, 1), (1, 1)),
    (SHUT, 2, (1, 1), (1, 8)),
    (SHUT, 3, (1, 1), (1, 12)),
    # The queue is full of dead ones, and one is wasted in each beat.
    (WASTED, 1, (1, 1), (1, 1)),
    (WASTED, 3, (1, 1), (0, 1)),
    (EXAMPLE, 2, (1, 1), (1, 1)),
    (EXAMPLE, 3, (2, 1), (0, 1)),
    (setting_with(work=3, room=3, tries=1), 4, (1, 1), (3, 4)),
    (setting_with(work=2, room=5, tries=1), 9, (1, 1), (2, 9)),
)

# Each with a setting, most and the fractions of load and worst, by the slow search.
SEVERAL = (
    ((2, 4, 1, 3, 2, "newest", False, 1, None), 3, (7, 5), (2, 3)),
    ((1, 4, 1, 2, 1, "newest", False, 2, (2, 1)), 4, (8, 5), (1, 8)),
    ((2, 5, 3, 3, 1, "oldest", False, 1, (1, 2)), 3, (13, 10), (3, 5)),
    ((2, 4, 1, 2, 1, "newest", False, None, (2, 3)), 3, (23, 12), (1, 6)),
    ((1, 3, 1, 3, 1, "oldest", True, 0, (2, 2)), 2, (1, 1), (0, 1)),
    ((2, 2, 3, 3, 2, "oldest", False, 1, None), 4, (3, 2), (1, 2)),
    ((2, 4, 2, 1, 3, "newest", False, 3, (1, 2)), 3, (1, 1), (4, 11)),
    ((1, 3, 4, 1, 1, "newest", False, 1, (1, 2)), 3, (1, 1), (2, 7)),
    ((1, 5, 1, 2, 1, "oldest", True, None, None), 4, (2, 1), (0, 1)),
    ((2, 1, 3, 3, 1, "newest", False, 3, (2, 1)), 4, (2, 1), (1, 8)),
)
BOTH = ((CAME, load, shows_load), (ANSWERED, worst, shows_worst))
# Exactly 2,000 states, and one more.
JUST_FEW = ((3, 5, 2, 2, 3, "newest", False, None, (3, 2)), 6)
JUST_MANY = ((1, 3, 2, 2, 3, "oldest", False, 3, (1, 2)), 4)
VERY_MANY = ((3, 4, 4, 3, 3, "oldest", True, None, None), 9)


class Tells(unittest.TestCase):
    def holds(self, which, setting, most, told):
        """All that is promised of what is told, but not that its fraction is the right one."""
        fraction, way, row, prices = told
        self.assertEqual(len(told), 4)
        p, q = fraction
        self.assertEqual(math.gcd(p, q), 1)
        self.assertTrue(row)
        self.assertTrue(all(0 <= fresh <= most for fresh in way + row))
        self.assertTrue(slow_round_holds(setting, which, fraction, way, row))
        self.assertEqual(prices, tuple(sorted(prices)))
        self.assertTrue(slow_bounds_hold(setting, most, which, fraction, prices))
        self.assertEqual(set(map(type, (told, fraction, way, row, prices))), {tuple})
        numbers = list(fraction + way + row) + [price for _, price in prices]
        self.assertEqual(set(map(type, numbers)), {int})

    def test_by_hand(self):
        for setting, most, greatest, smallest in BY_HAND:
            with self.subTest(setting=setting, most=most):
                self.assertEqual(load(setting, most)[0], greatest)
                self.assertEqual(worst(setting, most)[0], smallest)

    def test_by_the_slow_search(self):
        for setting, most, greatest, smallest in SEVERAL:
            with self.subTest(setting=setting, most=most):
                self.assertEqual(load(setting, most)[0], greatest)
                self.assertEqual(worst(setting, most)[0], smallest)

    def test_the_slow_search_tells_so(self):
        for setting, most, *fractions in BY_HAND[:-2] + SEVERAL[4:5] + SEVERAL[6:7]:
            with self.subTest(setting=setting, most=most):
                told = [slow_quotient(setting, most, which) for which in (CAME, ANSWERED)]
                self.assertEqual(told, fractions)

    def test_what_goes_with_the_fraction(self):
        for setting, most, _, _ in BY_HAND + SEVERAL:
            for which, tell, show in BOTH:
                with self.subTest(setting=setting, most=most, which=which):
                    told = tell(setting, most)
                    self.holds(which, setting, most, told)
                    self.assertIs(show(setting, most, told), True)

    def test_the_whole_where_there_is_one_state(self):
        # There the prices can only be these, and the way is ().
        first = (0, (), ((),), 0, 0)
        fraction, way, row, prices = worst(ONCE, 1)
        self.assertEqual((fraction, set(way) <= {0, 1}, set(row), prices), ((1, 1), True, {1}, ((first, 0),)))
        fraction, way, row, prices = worst(ONCE, 3)
        self.assertEqual((fraction, set(row), prices), ((1, 3), {3}, ((first, 0),)))
        fraction, _, row, prices = load(ONCE, 3)
        self.assertEqual((fraction, sum(row) > 0, prices), ((1, 1), True, ((first, 0),)))

    def test_against_the_slow_search(self):
        dice = random.Random(50)
        seen = {}
        while len(seen) < 26:
            setting = some_plain_setting(dice)
            most = dice.randint(1, 4)
            for which, tell, show in BOTH:
                wanted = slow_quotient(setting, most, which, 11)
                if wanted is not None:
                    told = tell(setting, most)
                    self.assertEqual(told[0], wanted, (setting, most, which))
                    self.holds(which, setting, most, told)
                    self.assertIs(show(setting, most, told), True)
                    seen[which, wanted] = True

    def test_what_the_document_says_of_them(self):
        dice = random.Random(51)
        seen = {"once": 0, "no tokens": 0, "tokens": 0, "nothing": 0}
        for _ in range(150):
            setting = some_plain_setting(dice)
            tries, tokens = setting[3], setting[7]
            if slow_reach(setting, slow_first(setting), 4, 300) is None:
                continue
            loads = [load(setting, most)[0] for most in (1, 2, 3, 4)]
            worsts = [worst(setting, most)[0] for most in (1, 2, 3, 4)]
            for (p, q), (r, s) in zip(loads, worsts):
                self.assertTrue(q <= p <= tries * q)
                self.assertTrue(0 <= r <= s)
                if tries == 1:
                    seen["once"] += 1
                    self.assertEqual((p, q), (1, 1))
                if tokens == 0:
                    seen["no tokens"] += 1
                    self.assertEqual((p, q), (1, 1))
                if tokens is not None:
                    seen["tokens"] += 1
                    self.assertLessEqual(p, 2 * q)
                if r == 0:
                    self.assertEqual((r, s), (0, 1))
                    if tokens is None:
                        seen["nothing"] += 1
                        self.assertEqual((p, q), (tries, 1))
            for (p, q), (r, s) in zip(loads, loads[1:]):
                self.assertLessEqual(p * s, r * q)
            for (p, q), (r, s) in zip(worsts, worsts[1:]):
                self.assertGreaterEqual(p * s, r * q)
        self.assertGreater(min(seen.values()), 4, seen)

    def test_just_few_enough_states(self):
        setting, most = JUST_FEW
        for which, tell, show in BOTH:
            told = tell(setting, most)
            self.assertEqual(len(told[3]), 2000)
            self.holds(which, setting, most, told)
            self.assertIs(show(setting, most, told), True)

    def test_too_many_states(self):
        for setting, most in (JUST_MANY, VERY_MANY):
            for _, tell, _ in BOTH:
                with self.assertRaises(TooMany) as caught:
                    tell(setting, most)
                self.assertEqual(caught.exception.limit, 2000)
                self.assertIs(type(caught.exception), TooMany)

    def test_too_many_whatever_would_be_found(self):
        # Where no token lets anybody ask again the load is 1 anyway.
        many = (1, 3, 2, 2, 3, "newest", False, 0, None)
        self.assertTrue(slow_reach(many, slow_first(many), 9, 2000) is None)
        for _, tell, _ in BOTH:
            with self.assertRaises(TooMany):
                tell(many, 9)

    def test_wrong_arguments(self):
        for _, tell, show in BOTH:
            refuse_in_order(self, tell, (SETTING_KIND, MOST_KIND))
            refuse_in_order(self, show, (SETTING_KIND, MOST_KIND, ANY_KIND))
            # What is handed in is looked at before the states are gone through.
            with self.assertRaises(NoMost):
                tell(VERY_MANY[0], 10)
            with self.assertRaises(NoSetting):
                tell(list(VERY_MANY[0]), 9)

    def test_most_from_1_to_9(self):
        for most in range(1, 10):
            self.assertEqual(worst(ONCE, most)[0], (1, most))

    def test_calls(self):
        for _, tell, show in BOTH:
            told = check_calls(self, tell, ("setting", "most"), SEVERAL[1][:2])
            check_calls(self, show, ("setting", "most", "thing"), SEVERAL[1][:2] + (told,))
            thing = ([told[0]], list(told[1]), {1: told[2]}, [[told[3]]])
            self.assertIs(check_calls(self, show, ("setting", "most", "thing"), SEVERAL[1][:2] + (thing,)), False)

    def test_they_are_defined_in_their_file(self):
        for call in (load, worst, shows_load, shows_worst):
            self.assertEqual(call.__module__, "comesback.loads")
            self.assertIs(getattr(loads_file, call.__name__), call)


class Shows(unittest.TestCase):
    """What is shown and what is not, part by part."""

    @classmethod
    def setUpClass(cls):
        cls.told = {}
        for setting, most, _, _ in BY_HAND[4:8] + BY_HAND[11:17] + SEVERAL:
            for which, tell, _ in BOTH:
                cls.told[setting, most, which] = tell(setting, most)

    def cases(self):
        for (setting, most, which), told in self.told.items():
            yield (setting, most, which), told

    def shown(self, wanted, case, thing):
        setting, most, which = case
        told = BOTH[which][2](setting, most, thing)
        self.assertIs(told, wanted, (case, str(thing)[:300]))

    def test_prices_in_another_order(self):
        dice = random.Random(52)
        for case, (fraction, way, row, prices) in self.cases():
            self.shown(True, case, (fraction, way, row, prices[::-1]))
            for _ in range(3):
                mixed = tuple(dice.sample(prices, len(prices)))
                self.shown(True, case, (fraction, way, row, mixed))

    def test_longer_ways(self):
        for case, (fraction, way, row, prices) in self.cases():
            self.shown(True, case, (fraction, way + row, row, prices))
            self.shown(True, case, (fraction, way + row * 3, row, prices))
            self.shown(True, case, (fraction, way + row * 300, row, prices))
            self.shown(True, case, (fraction, (0,) * 40 + way, row, prices))
            self.shown(True, case, (fraction, (0,) * 5000 + way, row, prices))

    def test_rounds_gone_several_times(self):
        for case, (fraction, way, row, prices) in self.cases():
            for many in (2, 3, 100):
                self.shown(True, case, (fraction, way, row * many, prices))

    def test_turned_rounds(self):
        for case, (fraction, way, row, prices) in self.cases():
            setting, _, which = case
            for turn in range(1, len(row)):
                turned = row[turn:] + row[:turn]
                self.shown(True, case, (fraction, way + row[:turn], turned, prices))
                self.shown(slow_round_holds(setting, which, fraction, way, turned), case,
                           (fraction, way, turned, prices))

    def test_any_ways_and_rounds(self):
        dice = random.Random(53)
        seen = {True: 0, False: 0}
        for case, (fraction, way, row, prices) in self.cases():
            setting, most, which = case
            for _ in range(60):
                other = tuple(dice.randint(0, most) for _ in range(dice.randint(0, 8)))
                around = tuple(dice.randint(0, most) for _ in range(dice.randint(0, 3)))
                parts = dice.choice(((other, row), (way, around), (other, around), (way + other, row)))
                wanted = slow_round_holds(setting, which, fraction, *parts)
                seen[wanted] += 1
                self.shown(wanted, case, (fraction,) + parts + (prices,))
        self.assertGreater(min(seen.values()), 100, seen)

    def test_rounds_without_a_fresh_ask(self):
        for case, (fraction, way, _, prices) in self.cases():
            for ahead in (way, (), (0,) * 60):
                for row in ((), (0,), (0, 0, 0)):
                    self.shown(False, case, (fraction, ahead, row, prices))

    def test_rounds_that_do_not_lead_back(self):
        done = 0
        for case, (fraction, way, row, prices) in self.cases():
            setting, most, which = case
            start = slow_run(setting, slow_first(setting), way)
            for end in range(1, len(row)):
                if slow_run(setting, start, row[:end]) != start:
                    self.shown(False, case, (fraction, way, row[:end], prices))
            for fresh in range(most + 1):
                told = slow_told(setting, start, fresh)
                # The quotient alone would be right.
                if told[6] != start and fresh > 0 and told[which] * fraction[1] == fresh * fraction[0]:
                    done += 1
                    self.shown(False, case, (fraction, way, (fresh,), prices))
        self.assertGreater(done, 5)

    def test_rounds_with_another_quotient(self):
        done = 0
        for case, (fraction, way, row, prices) in self.cases():
            setting, most, which = case
            for state, ahead in slow_reach(setting, slow_first(setting), most).items():
                for fresh in range(1, most + 1):
                    told = slow_told(setting, state, fresh)
                    if told[6] == state:
                        wanted = told[which] * fraction[1] == fresh * fraction[0]
                        done += not wanted
                        self.shown(wanted, case, (fraction, ahead, (fresh,), prices))
                        if not wanted:
                            # Its own quotient does not go with these prices.
                            self.shown(False, case, (in_lowest_terms(told[which], fresh), ahead, (fresh,), prices))
        self.assertGreater(done, 30)

    def test_fractions_not_in_lowest_terms(self):
        for case, ((p, q), way, row, prices) in self.cases():
            for many in (2, 3, 10):
                greater = tuple((state, price * many) for state, price in prices)
                for bounds in (prices, greater):
                    self.shown(False, case, ((p * many, q * many), way, row, bounds))
            self.shown(False, case, ((0, 2), way, row, prices))

    def test_other_fractions(self):
        for case, ((p, q), way, row, prices) in self.cases():
            for r in range(-2, 6):
                for s in range(-2, 6):
                    if (r, s) != (p, q):
                        self.shown(False, case, ((r, s), way, row, prices))
            for fraction in ((p, -q), (-p, -q), (-p, q), (p, 0), (0, 0), (q, p), (p + 1, q), (p, q + 1), (p - 1, q)):
                if fraction != (p, q):
                    self.shown(False, case, (fraction, way, row, prices))

    def test_a_fraction_that_is_only_a_bound(self):
        # A greater load, or a smaller share, is bounded by prices as well, but no round has it.
        for case, ((p, q), way, row, _) in self.cases():
            setting, most, which = case
            tries = setting[3]
            if which == CAME and p < tries * q:
                for fraction in ((tries, 1), (tries + 1, 1)):
                    self.bound_only(case, fraction, way, row)
            if which == ANSWERED and p > 0:
                self.bound_only(case, (0, 1), way, row)

    def bound_only(self, case, fraction, way, row):
        setting, most, which = case
        prices = settled(setting, most, which, fraction)
        self.assertTrue(slow_bounds_hold(setting, most, which, fraction, prices))
        self.shown(False, case, (fraction, way, row, prices))

    def test_a_round_that_is_not_the_best(self):
        # A right round of its own quotient, but no prices can go with it.
        for case, ((p, q), _, _, prices) in self.cases():
            setting, most, which = case
            for fresh in (1, most):
                state, row = slow_first(setting), ()
                while state not in (seen := slow_states(setting, slow_first(setting), row))[:-1]:
                    row += (fresh,)
                    state = slow_next(setting, state, fresh)
                start = seen.index(state)
                many = sum(slow_told(setting, one, fresh)[which] for one in seen[start:-1])
                fraction = in_lowest_terms(many, fresh * (len(row) - start))
                wanted = fraction == (p, q)
                self.shown(wanted, case, (fraction, row[:start], row[start:], prices))

    def test_numbers_above_most(self):
        for case, (fraction, way, row, prices) in self.cases():
            setting, most, which = case
            for wrong in (most + 1, 10, 999, -1):
                self.shown(False, case, (fraction, (wrong,) + way, row, prices))
                self.shown(False, case, (fraction, way + (wrong,), row, prices))
                self.shown(False, case, (fraction, way, row + (wrong,), prices))
        # Here one ask in each beat goes round, whatever came before.
        first = (0, (), ((),), 0, 0)
        for most in range(1, 6):
            for ahead in range(10):
                self.shown(ahead <= most, (ONCE, most, CAME), ((1, 1), (ahead,), (1,), ((first, 0),)))
                if ahead:
                    self.shown(ahead <= most, (ONCE, most, CAME), ((1, 1), (), (ahead,), ((first, 0),)))

    def test_with_another_most(self):
        for case, told in self.cases():
            setting, most, which = case
            fraction, way, row, prices = told
            for other in range(1, 10):
                wanted = max(way + row) <= other and slow_bounds_hold(setting, other, which, fraction, prices)
                self.shown(wanted, (setting, other, which), told)

    def test_the_one_for_the_other(self):
        # Where nothing is lost the two are equal, and prices of the one may be right for the other.
        for case, told in self.cases():
            setting, most, which = case
            other = ANSWERED if which == CAME else CAME
            fraction, way, row, prices = told
            wanted = (slow_round_holds(setting, other, fraction, way, row)
                      and slow_bounds_hold(setting, most, other, fraction, prices))
            self.shown(wanted, (setting, most, other), told)
            if wanted:
                self.assertEqual(fraction, (1, 1))

    def test_p_times_and_q_times(self):
        # With the prices the other way about, p times the asks at the door less q times the fresh ones.
        for case, ((p, q), way, row, _) in self.cases():
            setting, most, which = case
            if p != q:
                for sign in (1, -1):
                    turned = relaxed(setting, most, which, (q, p), sign)
                    if turned is not None and not slow_bounds_hold(setting, most, which, (p, q), turned):
                        self.shown(False, case, ((p, q), way, row, turned))

    def test_each_price_changed(self):
        seen = {True: 0, False: 0}
        for case, (fraction, way, row, prices) in self.cases():
            setting, most, which = case
            for place, (state, price) in enumerate(prices):
                for other in (price - 1, price + 1, price - 10, price + 10, 0, -price, 10 ** 12 - 1, -10 ** 12 + 1):
                    if other != price:
                        changed = prices[:place] + ((state, other),) + prices[place + 1:]
                        wanted = slow_bounds_hold(setting, most, which, fraction, changed)
                        seen[wanted] += 1
                        self.shown(wanted, case, (fraction, way, row, changed))
                        if state == slow_first(setting):
                            self.assertFalse(wanted)
        self.assertGreater(min(seen.values()), 50, seen)

    def test_prices_raised_together(self):
        # A state may cost more if all that it leads to does, but for the first one.
        done = {True: 0, False: 0}
        for case, (fraction, way, row, prices) in self.cases():
            setting, most, which = case
            for state, _ in prices:
                behind = slow_reach(setting, state, most)
                raised = tuple((one, price + 5 if one in behind else price) for one, price in prices)
                wanted = slow_first(setting) not in behind
                done[wanted] += 1
                self.assertEqual(slow_bounds_hold(setting, most, which, fraction, raised), wanted)
                self.shown(wanted, case, (fraction, way, row, raised))
            raised = tuple((one, price + 1) for one, price in prices)
            self.shown(False, case, (fraction, way, row, raised))
        self.assertGreater(done[False], 50)

    def test_further_states(self):
        # Prices may be of states that no row leads to, with all behind those.
        done = 0
        for case, (fraction, way, row, prices) in self.cases():
            setting, most, which = case
            known = dict(prices)
            for state in odd_states(setting):
                behind = {slow_next(setting, state, fresh) for fresh in range(most + 1)}
                if state in known or not behind <= set(known):
                    continue
                highest = min(known[told[6]] - slow_gain(which, fraction, told[which], fresh)
                              for fresh in range(most + 1) for told in [slow_told(setting, state, fresh)])
                done += 1
                for more, wanted in ((0, True), (-1, True), (-1000, True), (1, False), (1000, False)):
                    pairs = prices + ((state, highest + more),)
                    self.assertEqual(slow_bounds_hold(setting, most, which, fraction, pairs), wanted)
                    self.shown(wanted, case, (fraction, way, row, pairs))
                    self.shown(wanted, case, (fraction, way, row, pairs[::-1]))
        self.assertGreater(done, 5)

    def test_some_left_out(self):
        for case, (fraction, way, row, prices) in self.cases():
            setting, most, which = case
            for place in range(len(prices)):
                self.shown(False, case, (fraction, way, row, prices[:place] + prices[place + 1:]))
            self.shown(False, case, (fraction, way, row, ()))

    def test_a_state_twice(self):
        for case, (fraction, way, row, prices) in self.cases():
            for state, price in prices:
                self.shown(False, case, (fraction, way, row, prices + ((state, price),)))
                self.shown(False, case, (fraction, way, row, ((state, price - 1),) + prices))

    def test_states_of_another_setting(self):
        for case, (fraction, way, row, prices) in self.cases():
            other = ((0, (), ((0, 0),) * 3, 4, 3), 0)
            self.shown(False, case, (fraction, way, row, prices + (other,)))
            self.shown(False, case, (fraction, way, row, ((7, 0),) + prices))

    def test_parts_of_other_kinds(self):
        for case, (fraction, way, row, prices) in self.cases():
            for wrong in (True, False, None, "", "1", 0, 1, [], {}, {1: 2}, [1], ((),), (None,), (True,), ("1",)):
                self.shown(False, case, (wrong, way, row, prices))
                self.shown(False, case, (fraction, way, wrong, prices))
                self.shown(False, case, (fraction, way, row, wrong))
                if wrong != ():
                    self.shown(False, case, (fraction, wrong, row, prices))
            self.shown(False, case, (list(fraction), way, row, prices))
            self.shown(False, case, (fraction, list(way), row, prices))
            self.shown(False, case, (fraction, way, list(row), prices))
            self.shown(False, case, (fraction, way, row, list(prices)))
            self.shown(False, case, (fraction, way, row, dict(prices)))
            self.shown(False, case, [fraction, way, row, prices])

    def test_bools_for_numbers(self):
        # These are equal to what is shown, as numbers compare.
        case = (TWICE, 1, CAME)
        first = (0, (), ((0,),), 0, 0)
        self.shown(True, case, ((1, 1), (0, 1), (1, 0), ((first, 0),)))
        self.shown(False, case, ((True, 1), (0, 1), (1, 0), ((first, 0),)))
        self.shown(False, case, ((1, True), (0, 1), (1, 0), ((first, 0),)))
        self.shown(False, case, ((1, 1), (False, 1), (1, 0), ((first, 0),)))
        self.shown(False, case, ((1, 1), (0, True), (1, 0), ((first, 0),)))
        self.shown(False, case, ((1, 1), (0, 1), (True, 0), ((first, 0),)))
        self.shown(False, case, ((1, 1), (0, 1), (1, False), ((first, 0),)))
        self.shown(False, case, ((1, 1), (0, 1), (1, 0), ((first, False),)))
        for other in ((False,) + first[1:], first[:2] + (((False,),),) + first[3:], first[:4] + (False,)):
            self.assertEqual(other, first)
            self.shown(False, case, ((1, 1), (0, 1), (1, 0), ((other, 0),)))
        case = (WASTED, 3, ANSWERED)
        fraction, way, row, prices = worst(WASTED, 3)
        self.assertEqual(fraction, (0, 1))
        self.shown(False, case, ((False, 1), way, row, prices))
        self.shown(False, case, ((0, True), way, row, prices))

    def test_pairs_of_other_forms(self):
        for case, (fraction, way, row, prices) in self.cases():
            state, price = prices[-1]
            for pair in ([state, price], (state,), (state, price, 0), (price, state), state, price, (), None, True,
                         (list(state), price), (state[:4], price), (state + (0,), price), (None, price),
                         (state, None), (state, str(price)), (state, (price,)), (state, [price]), (state, {}),
                         (state[:2] + (list(state[2]),) + state[3:], price), ({}, price), ([], price)):
                self.shown(False, case, (fraction, way, row, prices[:-1] + (pair,)))
                self.shown(False, case, (fraction, way, row, prices + (pair,)))

    def test_the_whole_of_other_forms(self):
        for case, told in self.cases():
            for thing in (told[:3], told + ((),), told[::-1], (told,), told[0], (told[0], told[2], told[3]),
                          ("load",) + told, (told[0],) + told[2:] + (told[1],)):
                self.shown(False, case, thing)

    def test_values_that_are_nothing_of_the_kind(self):
        for setting, most, _, _ in SEVERAL[:3]:
            for value in strange_values() + [TooMany(3), NoMost, load]:
                for thing in (value, (value,), (value,) * 4, ((1, 1), (), (1,), value), ((1, 1), (), (1,), (value,)),
                              ((1, 1), (), (1,), ((value, 0),)), ((1, 1), (), (1,), ((value, value),)),
                              (value, (), (1,), ()), ((value, value), (), (1,), ()), ((1, 1), (value,), (1,), ()),
                              ((1, 1), (), (value,), ()), ((1, 1), value, (1,), ()), ((1, 1), (), value, ())):
                    for which in (CAME, ANSWERED):
                        self.shown(False, (setting, most, which), thing)

    def test_more_than_2000_states(self):
        setting, most = JUST_MANY
        for which, fraction, way, row in (
            (CAME, (2, 1), (3, 3, 0, 0, 2, 0, 0), (2, 0, 2, 0, 0)),
            (ANSWERED, (1, 6), (4, 0, 2, 3, 4, 4, 3), (4, 4, 4)),
        ):
            case = (setting, most, which)
            prices = settled(setting, most, which, fraction)
            self.assertEqual(len(prices), 2001)
            self.assertTrue(slow_round_holds(setting, which, fraction, way, row))
            self.assertTrue(slow_bounds_hold(setting, most, which, fraction, prices))
            self.shown(True, case, (fraction, way, row, prices))
            self.shown(True, case, (fraction, (0,) * 9 + way, row * 3, prices[::-1]))
            self.shown(False, case, (fraction, way, row, prices[1:]))
            self.shown(False, case, (fraction, way, row, prices[:-1]))
            self.shown(False, case, (fraction, way, row[1:], prices))


def in_lowest_terms(many, asks):
    shared = math.gcd(many, asks)
    return many // shared, asks // shared


def slow_states(setting, state, row):
    """The state, and those behind each beat of the row."""
    states = [state]
    for fresh in row:
        states.append(slow_next(setting, states[-1], fresh))
    return states


def relaxed(setting, most, which, fraction, sign, passes=200):
    """Prices by raising what is too small until nothing is, or None if that does not end."""
    prices = {state: 0 for state in slow_reach(setting, slow_first(setting), most)}
    for _ in range(passes):
        before = dict(prices)
        for state in prices:
            for fresh in range(most + 1):
                told = slow_told(setting, state, fresh)
                least = prices[state] + sign * slow_gain(which, fraction, told[which], fresh)
                prices[told[6]] = max(prices[told[6]], least)
        if prices == before:
            lowest = prices[slow_first(setting)]
            return tuple((state, price - lowest) for state, price in prices.items())
    return None


def settled(setting, most, which, fraction, passes=200):
    """Prices that are right if there are any; otherwise some that are not."""
    found = relaxed(setting, most, which, fraction, 1, passes)
    if found is None:
        return tuple((state, 0) for state in slow_reach(setting, slow_first(setting), most))
    return found


def odd_states(setting):
    """States that are seldom led to: many who ask again, many dead, a door that is shut."""
    _, room, patience, tries, wait, _, keeps, tokens, fuse = setting
    first = first_state(setting)
    for many in (1, 2, 5, 9):
        yield first[:2] + (((many,) * (tries - 1),) * wait,) + first[3:]
    for dead in range(1, room + 1 if keeps else 0):
        yield (dead,) + first[1:]
    for left in range(tokens or 0):
        yield first[:3] + (left, 0)
    for door in range(1, fuse[1] + 1 if fuse else 0):
        yield first[:4] + (door,)
    if patience > 1:
        yield (0, ((0, 1),) * room) + first[2:]


if __name__ == "__main__":
    unittest.main()
