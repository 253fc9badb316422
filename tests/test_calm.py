import random
import unittest

from comesback import calm as calm_file
from comesback.beats import beat
from comesback.calm import calm, stays
from comesback.errors import NoState
from comesback.settings import first_state

from tests.model import all_settings, kinds_of, some_plain_setting, some_setting, some_state
from tests.refusals import SETTING_KIND, STATE_KIND, STEADY_KIND, check_calls, refuse_in_order
from tests.slow import slow_calm, slow_stays

EXAMPLE = (2, 4, 1, 2, 1, "oldest", True, None, None)

# Settings with greater inflows than their work or room: the beats and the round.
CALMS = (
    (EXAMPLE, 3, (2, ((2, (), ((3,),), 0, 0),))),
    ((1, 2, 1, 1, 1, "oldest", True, None, None), 2, (1, ((1, (), ((),), 0, 0),))),
    ((1, 1, 1, 2, 2, "oldest", True, None, None), 2, (4, ((0, (), ((2,), (2,)), 0, 0),))),
    ((1, 1, 1, 1, 1, "oldest", True, None, (1, 1)), 2,
     (0, ((0, (), ((),), 0, 0), (0, (), ((),), 0, 1)))),
    ((1, 1, 1, 2, 1, "newest", False, None, (1, 1)), 2,
     (2, ((0, (), ((2,),), 0, 0), (0, (), ((2,),), 0, 1)))),
    ((1, 2, 2, 2, 1, "newest", False, None, None), 3,
     (3, ((0, ((0, 1),), ((3,),), 0, 0), (0, (), ((3,),), 0, 0)))),
    ((1, 1, 1, 2, 1, "newest", False, 0, (1, 2)), 2,
     (1, ((0, (), ((1,),), 0, 2), (0, (), ((2,),), 0, 1), (0, (), ((2,),), 0, 0)))),
    ((1, 2, 4, 2, 1, "newest", False, None, None), 2,
     (5, ((0, ((0, 1),), ((2,),), 0, 0), (0, ((0, 2),), ((2,),), 0, 0),
          (0, ((0, 3),), ((2,),), 0, 0), (0, (), ((2,),), 0, 0)))),
)

# States that stay down with 1 fresh ask in each beat, of settings of all ways.
DOWNS = (
    (EXAMPLE, (2, (), ((2,),), 0, 0), (1, ((2, (), ((1,),), 0, 0),))),
    (EXAMPLE, (1, (), ((1,),), 0, 0), (0, ((1, (), ((1,),), 0, 0),))),
    ((1, 2, 1, 1, 1, "oldest", True, None, None), (1, (), ((),), 0, 0),
     (0, ((1, (), ((),), 0, 0),))),
    ((1, 1, 1, 2, 1, "newest", False, None, (1, 1)), (0, (), ((4,),), 0, 1),
     (1, ((0, (), ((1,),), 0, 0), (0, (), ((1,),), 0, 1)))),
    ((1, 1, 1, 2, 1, "newest", False, 1, (2, 2)), (0, (), ((1,),), 1, 0),
     (0, ((0, (), ((1,),), 1, 0),))),
    ((1, 1, 2, 2, 1, "newest", False, 1, None), (0, ((0, 1),), ((2,),), 1, 0),
     (1, ((0, (), ((1,),), 1, 0),))),
    ((1, 1, 1, 2, 2, "newest", True, None, None), (0, (), ((2,), (0,)), 0, 0),
     (1, ((0, (), ((0,), (1,)), 0, 0), (0, (), ((1,), (0,)), 0, 0)))),
    ((1, 1, 1, 2, 2, "oldest", False, 1, (1, 1)), (0, (), ((0,), (8,)), 1, 1),
     (2, ((0, (), ((1,), (1,)), 1, 1), (0, (), ((1,), (1,)), 0, 0), (0, (), ((1,), (0,)), 1, 0),
          (0, (), ((0,), (1,)), 1, 1), (0, (), ((1,), (1,)), 1, 0)))),
    ((1, 3, 1, 1, 2, "newest", True, 0, (1, 1)), (2, (), ((), ()), 0, 1),
     (1, ((1, (), ((), ()), 0, 0),))),
    ((1, 1, 1, 2, 3, "newest", False, None, (1, 1)), (0, (), ((0,), (0,), (3,)), 0, 1),
     (3, ((0, (), ((1,), (0,), (1,)), 0, 1), (0, (), ((0,), (1,), (1,)), 0, 0),
          (0, (), ((1,), (1,), (0,)), 0, 0)))),
    ((1, 2, 2, 1, 3, "oldest", True, 0, (1, 1)), (1, (), ((), (), ()), 0, 0),
     (1, ((0, ((0, 1),), ((), (), ()), 0, 0),))),
)

# States that come back with 1 fresh ask in each beat, and after how many.
BACKS = (
    (EXAMPLE, (0, (), ((0,),), 0, 0), 0),
    (EXAMPLE, (1, (), ((0,),), 0, 0), 1),
    ((2, 3, 3, 1, 1, "oldest", False, 2, None), (0, ((0, 2), (0, 1), (0, 1)), ((),), 0, 0), 2),
    ((3, 5, 1, 2, 1, "newest", False, 4, (1, 3)), (0, (), ((0,),), 3, 2), 4),
    ((1, 3, 1, 1, 3, "oldest", False, 0, (2, 3)), (0, (), ((), (), ()), 0, 3), 3),
)


def around(states):
    return tuple(zip(states, states[1:] + states[:1]))


class Calm(unittest.TestCase):
    def test_by_hand(self):
        for setting, steady, wanted in CALMS:
            with self.subTest(setting=setting, steady=steady):
                told = calm(setting, steady)
                self.assertEqual(told, wanted)
                self.assertEqual(kinds_of(told), kinds_of(wanted))

    def test_the_first_state_alone_where_the_inflow_is_neither_above_work_nor_room(self):
        for setting in list(all_settings())[::61]:
            for steady in range(1, min(setting[0], setting[1]) + 1):
                self.assertEqual(calm(setting, steady), (0, (first_state(setting),)))

    def test_a_greater_inflow_leads_elsewhere_where_somebody_fails_for_it(self):
        for steady in range(3, 10):
            self.assertGreater(calm(EXAMPLE, steady)[0], 0, steady)
            self.assertNotIn(first_state(EXAMPLE), calm(EXAMPLE, steady)[1])

    def test_as_the_slow_model_tells(self):
        dice = random.Random(20)
        several = away = both = 0
        for _ in range(1500):
            setting, steady = some_setting(dice), dice.randint(1, 9)
            told = calm(setting, steady)
            self.assertEqual(told, slow_calm(setting, steady), (setting, steady))
            several += len(told[1]) > 1
            away += told[0] > 0
            both += len(told[1]) > 1 and told[0] > 0
        self.assertGreater(min(several, away, both), 100)

    def test_each_state_of_the_round_leads_to_the_next_and_the_first_reached_is_ahead(self):
        dice = random.Random(21)
        for _ in range(500):
            setting, steady = some_setting(dice), dice.randint(1, 9)
            beats, states = calm(setting, steady)
            for one, then in around(states):
                self.assertEqual(beat(setting, one, steady)[6], then)
            self.assertEqual(len(set(states)), len(states))
            state = first_state(setting)
            for _ in range(beats):
                self.assertNotIn(state, states)
                state = beat(setting, state, steady)[6]
            self.assertEqual(state, states[0])

    def test_wrong_arguments(self):
        refuse_in_order(self, calm, (SETTING_KIND, STEADY_KIND))

    def test_calls(self):
        self.assertEqual(
            check_calls(self, calm, ("setting", "steady"), CALMS[5][:2]), CALMS[5][2])


class Stays(unittest.TestCase):
    def test_down_by_hand(self):
        for setting, state, (beats, states) in DOWNS:
            with self.subTest(setting=setting, state=state):
                told = stays(setting, 1, state)
                self.assertEqual(told, ("down", beats, states))
                self.assertEqual(kinds_of(told), kinds_of(("down", beats, states)))
                for place, one in enumerate(states):
                    turned = states[place:] + states[:place]
                    self.assertEqual(stays(setting, 1, one), ("down", 0, turned))

    def test_back_by_hand(self):
        for setting, state, beats in BACKS:
            with self.subTest(setting=setting, state=state):
                wanted = ("back", beats)
                told = stays(setting, 1, state)
                self.assertEqual(told, wanted)
                self.assertEqual(kinds_of(told), kinds_of(wanted))

    def test_states_of_the_calm_round_are_back_after_0_beats(self):
        for setting, steady, (beats, states) in CALMS:
            for state in states:
                self.assertEqual(stays(setting, steady, state), ("back", 0))
            self.assertEqual(stays(setting, steady, first_state(setting)), ("back", beats))

    def test_as_the_slow_model_tells_and_so_behind_a_steady_beat(self):
        dice = random.Random(22)
        seen = {}
        for _ in range(4000):
            setting = some_plain_setting(dice)
            steady, state = dice.choice((1, 1, 2, 3, dice.randint(1, 9))), some_state(dice, setting)
            told = stays(setting, steady, state)
            self.assertEqual(told, slow_stays(setting, steady, state), (setting, steady, state))
            self.check_behind(setting, steady, state, told)
            kind = (told[0], setting[5], setting[6], setting[7] is None, setting[8] is None)
            seen[kind] = seen.get(kind, 0) + 1
            seen[told[0], setting[4]] = seen.get((told[0], setting[4]), 0) + 1
        # Both answers for each kind of setting: way, dead, tokens, fuse; and each wait.
        self.assertEqual(len(seen), 2 * 2 * 2 * 2 * 2 + 2 * 3)

    def check_behind(self, setting, steady, state, told):
        behind = stays(setting, steady, beat(setting, state, steady)[6])
        if told[1] > 0:
            wanted = (told[0], told[1] - 1) + told[2:]
        elif told[0] == "back":
            wanted = told
        else:
            wanted = ("down", 0, told[2][1:] + told[2][:1])
        self.assertEqual(behind, wanted, (setting, steady, state))

    def test_very_many_that_ask_again(self):
        crowd = 10 ** 12 - 1
        state = (0, (), ((crowd, crowd), (crowd, 0)), 0, 0)
        setting = (2, 4, 1, 3, 2, "oldest", True, None, None)
        self.assertEqual(stays(setting, 1, state)[0], "down")
        self.assertEqual(stays(setting, 1, state), stays(setting, 1, (0, (), ((99, 99), (99, 0)), 0, 0)))
        setting = (2, 4, 1, 3, 2, "oldest", False, 0, None)
        self.assertEqual(stays(setting, 1, state), ("back", 2))

    def test_wrong_arguments(self):
        refuse_in_order(self, stays, (SETTING_KIND, STEADY_KIND, STATE_KIND))

    def test_a_state_of_another_setting_is_none(self):
        with self.assertRaises(NoState):
            stays(EXAMPLE, 1, (0, (), ((0,), (0,)), 0, 0))

    def test_calls(self):
        names = ("setting", "steady", "state")
        self.assertEqual(check_calls(self, stays, names, (EXAMPLE, 1, DOWNS[0][1]))[0], "down")
        self.assertEqual(check_calls(self, stays, names, (EXAMPLE, 1, BACKS[1][1])), ("back", 1))

    def test_defined_in_its_file(self):
        for call in (calm, stays):
            self.assertEqual(call.__module__, calm_file.__name__)


if __name__ == "__main__":
    unittest.main()
