import random
import unittest

from comesback import bursts as bursts_file
from comesback.beats import beat
from comesback.bursts import bursts
from comesback.calm import stays
from comesback.settings import first_state

from tests.model import all_settings, kinds_of, some_plain_setting, some_state
from tests.refusals import SETTING_KIND, STATE_KIND, STEADY_KIND, check_calls, refuse_in_order
from tests.slow import slow_down, slow_first, slow_next

EXAMPLE = (2, 4, 1, 2, 1, "oldest", True, None, None)

# Each with a setting, a steady inflow, a state and the spans.
BURSTS = (
    # Nothing, one span, and several, with the last one without an end.
    ((1, 1, 1, 1, 1, "oldest", True, None, None), 1, (0, (), ((),), 0, 0), ()),
    ((1, 2, 1, 1, 1, "oldest", True, 0, None), 1, (0, (), ((),), 0, 0), ((1, None),)),
    ((1, 4, 1, 1, 1, "oldest", True, None, (2, 2)), 1, (0, (), ((),), 0, 0), ((1, 1), (3, None))),
    ((3, 4, 2, 3, 2, "newest", True, None, (1, 1)), 2, (0, (), ((0, 0), (0, 0)), 0, 0),
     ((6, 6), (8, 8), (10, None))),
    ((1, 5, 3, 3, 3, "newest", False, None, (2, 2)), 2, (0, (), ((0, 0), (0, 0), (0, 0)), 0, 0),
     ((2, 2), (6, 7), (9, 10), (12, None))),
    # The last span has an end.
    ((1, 2, 1, 1, 1, "oldest", True, None, (3, 1)), 1, (0, (), ((),), 0, 0), ((1, 2),)),
    ((1, 1, 2, 3, 1, "oldest", False, 4, (2, 1)), 1, (0, (), ((0, 0),), 4, 0), ((1, 1), (3, 3))),
    ((1, 5, 2, 3, 2, "newest", False, None, (2, 1)), 3, (0, (), ((0, 0), (0, 0)), 0, 0),
     ((5, 5), (7, 7), (9, 9), (11, 11))),
    # The first span begins at 0.
    ((1, 2, 1, 1, 1, "newest", True, 1, (2, 1)), 1, (1, (), ((),), 1, 0), ((0, 1),)),
    ((1, 2, 1, 1, 1, "oldest", True, None, None), 1, (1, (), ((),), 0, 0), ((0, None),)),
    ((1, 2, 2, 1, 2, "newest", True, None, (2, 1)), 2, (1, (), ((), ()), 0, 0), ((0, 0),)),
    ((2, 1, 1, 3, 1, "oldest", False, 4, (2, 1)), 1, (0, (), ((0, 1),), 4, 0), ((0, 0), (2, 2))),
    ((1, 4, 2, 1, 1, "oldest", True, 0, (1, 2)), 1, (1, (), ((),), 0, 0), ((0, 0), (2, None))),
    ((2, 5, 2, 3, 2, "oldest", False, None, (1, 1)), 3, (0, (), ((2, 2), (1, 4)), 0, 0),
     ((0, 0), (2, 2), (4, 4), (6, 6), (8, None))),
)


def spans_hold(spans, k):
    return any(first <= k and (last is None or k <= last) for first, last in spans)


class Bursts(unittest.TestCase):
    def test_the_example(self):
        told = bursts(EXAMPLE, 1, first_state(EXAMPLE))
        self.assertEqual(told, ((2, None),))
        self.assertEqual(kinds_of(told), kinds_of(((2, None),)))

    def test_the_table(self):
        for setting, steady, state, spans in BURSTS:
            with self.subTest(setting=setting, steady=steady, state=state):
                told = bursts(setting, steady, state)
                self.assertEqual(told, spans)
                self.assertEqual(kinds_of(told), kinds_of(spans))

    def test_the_table_k_by_k_as_the_slow_model_tells(self):
        for setting, steady, state, spans in BURSTS:
            for k in range(30):
                down = slow_down(setting, steady, slow_next(setting, state, steady + k))
                self.assertEqual(spans_hold(spans, k), down, (setting, k))

    def check_each(self, setting, steady, state):
        """Spans of the right form that hold just those k which beat and stays find."""
        spans = bursts(setting, steady, state)
        bound = setting[3] * setting[1] + 3 - steady
        for k in [*range(max(bound, 0) + 6), bound + 40, 999 - steady]:
            if k >= 0:
                behind = beat(setting, state, steady + k)[6]
                down = stays(setting, steady, behind)[0] == "down"
                self.assertEqual(spans_hold(spans, k), down, (setting, steady, state, k))
        edges = [edge for span in spans for edge in span]
        for place, (first, last) in enumerate(spans):
            self.assertTrue(last is None and place == len(spans) - 1 or last >= first)
            if place:
                self.assertGreater(first, spans[place - 1][1] + 1)
        self.assertTrue(all(edge is None or edge >= 0 for edge in edges))
        return spans

    def test_each_k_by_itself(self):
        dice = random.Random(210)
        seen = {}
        for _ in range(1500):
            setting = some_plain_setting(dice)
            steady, state = dice.choice((1, 1, 2, 3)), some_state(dice, setting)
            spans = self.check_each(setting, steady, state)
            kind = (min(len(spans), 2), bool(spans) and spans[0][0] == 0,
                    bool(spans) and spans[-1][1] is None)
            seen[kind] = seen.get(kind, 0) + 1
        for kind in ((0, False, False), (1, True, True), (1, False, True), (1, True, False)):
            self.assertGreater(seen[kind], 5, seen)

    def test_with_greater_inflows(self):
        dice = random.Random(211)
        for _ in range(300):
            setting = some_plain_setting(dice)
            self.check_each(setting, dice.randint(4, 9), some_state(dice, setting))

    def test_each_k_from_the_first_state_on(self):
        dice = random.Random(212)
        for setting in dice.sample(list(all_settings()), 500):
            self.check_each(setting, dice.randint(1, 3), first_state(setting))

    def test_the_bound_itself_is_looked_at(self):
        # Here the last k that ends otherwise is just below tries * room + 3 - steady.
        found = 0
        dice = random.Random(213)
        while found < 5:
            setting = some_plain_setting(dice)
            steady = dice.randint(1, 4)
            state = some_state(dice, setting) if dice.random() < 0.5 else slow_first(setting)
            spans = bursts(setting, steady, state)
            bound = setting[3] * setting[1] + 3 - steady
            edges = [span[0] for span in spans if span[1] is None] + \
                [span[1] + 1 for span in spans if span[1] is not None]
            if edges and max(edges) >= bound - 2 and max(edges) > 0:
                found += 1
                self.check_each(setting, steady, state)

    def test_bounds_below_0(self):
        for room, steady in ((1, 4), (1, 5), (1, 9), (2, 5), (2, 9)):
            setting = (1, room, 1, 1, 1, "oldest", True, None, (1, 3))
            for door in range(4):
                for dead in range(room + 1):
                    self.check_each(setting, steady, (dead, (), ((),), 0, door))
        # Here a single asker who waits on keeps the service in a round of its own.
        setting = (1, 3, 2, 1, 1, "newest", False, None, None)
        for steady in (6, 7, 8, 9):
            self.assertEqual(self.check_each(setting, steady, (0, ((0, 1),), ((),), 0, 0)), ((0, None),))
            self.assertEqual(self.check_each(setting, steady, (0, (), ((),), 0, 0)), ())

    def test_much_in_later_and_dead_ones(self):
        dice = random.Random(214)
        several = 0
        for _ in range(600):
            setting = some_plain_setting(dice)
            setting = setting[:1] + (dice.randint(3, 5),) + setting[2:6] + (True,) + setting[7:]
            later = tuple(
                tuple(dice.choice((0, 3, 9, 40)) for _ in range(setting[3] - 1)) for _ in range(setting[4]))
            state = some_state(dice, setting)
            state = (dice.randint(0, setting[1] - len(state[1])), state[1], later) + state[3:]
            several += bool(self.check_each(setting, dice.choice((1, 1, 2)), state))
        self.assertGreater(several, 100)

    def test_very_much_in_later(self):
        crowd = 10 ** 12 - 1
        state = (1, (), ((crowd, 5), (0, crowd)), 0, 0)
        setting = (2, 4, 1, 3, 2, "oldest", True, None, None)
        self.assertEqual(bursts(setting, 1, state), ((0, None),))

    def test_a_state_that_stays_down_may_come_back_from_some_bursts(self):
        setting, steady, state, _ = BURSTS[11]
        self.assertEqual(stays(setting, steady, state)[0], "down")
        self.assertEqual(stays(setting, steady, beat(setting, state, steady + 1)[6])[0], "back")

    def test_wrong_arguments(self):
        refuse_in_order(self, bursts, (SETTING_KIND, STEADY_KIND, STATE_KIND))

    def test_calls(self):
        names = ("setting", "steady", "state")
        for setting, steady, state, spans in BURSTS[2:6]:
            self.assertEqual(check_calls(self, bursts, names, (setting, steady, state)), spans)

    def test_defined_in_its_file(self):
        self.assertEqual(bursts.__module__, bursts_file.__name__)


class NoHarm(unittest.TestCase):
    """Where the document says that a service comes back from every state."""

    def comes_back(self, setting):
        """Try some states of the setting with each inflow that is below work."""
        dice = random.Random(repr(setting))
        for steady in range(1, setting[0]):
            for state in (some_state(dice, setting), some_state(dice, setting), first_state(setting)):
                told = stays(setting, steady, state)
                self.assertEqual(told[0], "back", (setting, steady, state))
                self.assertEqual(bursts(setting, steady, state), (), (setting, steady, state))

    def settings_with(self, holds):
        """Some of the settings whose room is not less than work and that hold what is asked."""
        found = [s for s in all_settings() if s[1] >= s[0] > 1 and holds(s)]
        return random.Random(22).sample(found, 150)

    def test_nothing_given_up_stays_and_no_fuse(self):
        for setting in self.settings_with(lambda s: not s[6] and s[8] is None):
            self.comes_back(setting)

    def test_the_newest_first_and_no_fuse(self):
        for setting in self.settings_with(lambda s: s[5] == "newest" and s[8] is None):
            self.comes_back(setting)

    def test_one_try(self):
        for setting in self.settings_with(lambda s: s[3] == 1):
            self.comes_back(setting)

    def test_no_token(self):
        for setting in self.settings_with(lambda s: s[7] == 0):
            self.comes_back(setting)

    def test_otherwise_it_need_not(self):
        for setting, steady in (
            (EXAMPLE, 1), (EXAMPLE[:7] + (4, None), 1), ((3, 4, 2, 3, 2, "newest", False, None, (1, 1)), 2),
        ):
            self.assertNotEqual(bursts(setting, steady, first_state(setting)), (), setting)


if __name__ == "__main__":
    unittest.main()
