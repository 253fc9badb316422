import copy
import random
import unittest

from comesback import beats
from comesback.beats import beat, is_row, run, totals
from comesback.errors import NoFresh, NoRow, NoSetting, NoState
from comesback.settings import first_state, is_state

from tests.model import (
    all_settings, deep, kinds_of, setting_with, slow_beat, some_setting, some_state, strange_values,
)

EXAMPLE = (2, 4, 1, 2, 1, "oldest", True, None, None)


class Steps(unittest.TestCase):
    """Each step by itself, worked out by hand."""

    def tells(self, state, fresh, wanted, **parts):
        told = beat(setting_with(**parts), state, fresh)
        self.assertEqual(told, wanted)
        self.assertEqual(kinds_of(told), kinds_of(wanted))

    def test_the_example(self):
        self.assertEqual(
            beat(EXAMPLE, first_state(EXAMPLE), 4), (4, 2, 0, 0, 2, 0, (2, (), ((2,),), 0, 0))
        )

    def test_nothing_to_do(self):
        self.tells((0, (), ((0,),), 0, 0), 0, (0, 0, 0, 0, 0, 0, (0, (), ((0,),), 0, 0)))

    # Step (1)

    def test_those_with_fewer_tries_behind_come_first_then_the_fresh(self):
        state = (0, (), ((1, 1),), 0, 0)
        wanted = (3, 1, 0, 1, 0, 0, (0, ((1, 1),), ((0, 1),), 0, 0))
        self.tells(state, 1, wanted, room=2, tries=3)
        wanted = (3, 1, 0, 2, 0, 0, (0, (), ((1, 1),), 0, 0))
        self.tells(state, 1, wanted, room=1, tries=3)

    def test_only_the_first_tuple_of_later_comes(self):
        state = (0, (), ((1,), (2,), (0,)), 0, 0)
        wanted = (1, 1, 0, 0, 0, 0, (0, (), ((2,), (0,), (0,)), 0, 0))
        self.tells(state, 0, wanted, wait=3)

    def test_fresh_ones_have_tries_less_one_behind(self):
        for tries in (1, 2, 3):
            zeros = (0,) * (tries - 1)
            wanted = (2, 1, 0, 0, 0, 0, (0, ((tries - 1, 1),), (zeros,), 0, 0))
            self.tells((0, (), (zeros,), 0, 0), 2, wanted, tries=tries)

    def test_each_that_asks_again_takes_a_token_and_fresh_ones_do_not(self):
        state = (0, (), ((1, 1),), 2, 0)
        wanted = (4, 0, 2, 0, 0, 0, (1, ((0, 1), (1, 1), (2, 1), (2, 1)), ((0, 0),), 0, 0))
        self.tells(
            (3,) + state[1:], 2, (4, 0, 2, 2, 0, 0, (1, ((0, 1), (1, 1)), ((0, 2),), 0, 0)),
            work=2, room=5, tries=3, tokens=3, dead=True,
        )
        self.tells(
            (2,) + state[1:], 2, wanted[:2] + (2, 1, 0, 0, (0, wanted[6][1][:3], ((0, 1),), 0, 0)),
            work=2, room=5, tries=3, tokens=3, dead=True,
        )

    def test_who_finds_no_token_is_lost_and_did_not_stand_at_the_door(self):
        state = (0, (), ((1, 1),), 1, 0)
        wanted = (2, 1, 0, 0, 0, 1, (0, ((2, 1),), ((0, 0),), 1, 0))
        self.tells(state, 1, wanted, room=5, tries=3, tokens=2)

    def test_with_0_tokens_all_that_ask_again_are_lost(self):
        state = (0, (), ((3, 2),), 0, 0)
        wanted = (1, 1, 0, 0, 0, 5, (0, (), ((0, 0),), 0, 0))
        self.tells(state, 1, wanted, room=5, tries=3, tokens=0)

    def test_tokens_of_this_beat_come_too_late_for_it(self):
        state = (0, ((1, 1),), ((1,),), 0, 0)
        wanted = (0, 1, 0, 0, 0, 1, (0, (), ((0,),), 1, 0))
        self.tells(state, 0, wanted, tokens=4)

    # Step (2)

    def test_whoever_finds_no_room_is_refused(self):
        state = (0, ((1, 1),), ((0,),), 0, 0)
        wanted = (5, 1, 0, 3, 0, 0, (0, ((1, 1), (1, 1)), ((3,),), 0, 0))
        self.tells(state, 5, wanted)

    def test_dead_ones_take_room(self):
        state = (2, ((1, 2),), ((0,),), 0, 0)
        wanted = (2, 0, 1, 1, 0, 0, (1, ((1, 3), (1, 1)), ((1,),), 0, 0))
        self.tells(state, 2, wanted, room=4, patience=4, dead=True)

    def test_a_full_queue_lets_in_nobody_although_some_leave_it_then(self):
        state = (0, ((1, 1),) * 3, ((0,),), 0, 0)
        wanted = (1, 3, 0, 1, 0, 0, (0, (), ((1,),), 0, 0))
        self.tells(state, 1, wanted, work=3)

    def test_a_shut_door_refuses_all_and_work_goes_on(self):
        state = (0, ((1, 1), (0, 1)), ((1,),), 0, 2)
        wanted = (3, 1, 0, 3, 0, 1, (0, ((0, 2),), ((2,),), 0, 1))
        self.tells(state, 2, wanted, patience=3, fuse=(3, 2))

    def test_tokens_are_taken_before_a_shut_door(self):
        state = (0, (), ((2,),), 2, 1)
        wanted = (2, 0, 0, 2, 0, 2, (0, (), ((0,),), 0, 0))
        self.tells(state, 0, wanted, tokens=4, fuse=(1, 1))

    # Step (3)

    def test_oldest_does_the_dead_ones_first_then_from_the_beginning(self):
        state = (1, ((0, 2), (1, 1)), ((0, 0),), 0, 0)
        wanted = (1, 1, 1, 0, 0, 0, (0, ((1, 2), (2, 1)), ((0, 0),), 0, 0))
        self.tells(state, 1, wanted, work=2, room=5, patience=3, tries=3, dead=True)

    def test_oldest_may_do_dead_ones_alone(self):
        state = (3, ((0, 1),), ((0,),), 0, 0)
        wanted = (0, 0, 2, 0, 0, 0, (1, ((0, 2),), ((0,),), 0, 0))
        self.tells(state, 0, wanted, work=2, room=4, patience=3, dead=True)

    def test_newest_does_from_the_end_those_of_this_beat_too(self):
        state = (0, ((0, 2), (1, 1)), ((0, 0),), 0, 0)
        wanted = (1, 2, 0, 0, 0, 0, (0, ((0, 3),), ((0, 0),), 0, 0))
        self.tells(state, 1, wanted, work=2, room=5, patience=4, tries=3, way="newest")

    def test_newest_does_the_dead_ones_last(self):
        state = (2, ((0, 1),), ((0,),), 0, 0)
        wanted = (0, 1, 1, 0, 0, 0, (1, (), ((0,),), 0, 0))
        self.tells(state, 0, wanted, work=2, room=4, way="newest", dead=True)
        wanted = (1, 2, 0, 0, 0, 0, (2, (), ((0,),), 0, 0))
        self.tells(state, 1, wanted, work=2, room=4, way="newest", dead=True)

    def test_no_more_work_than_there_is(self):
        for way in ("oldest", "newest"):
            wanted = (1, 1, 1, 0, 0, 0, (0, (), ((0,),), 0, 0))
            self.tells((1, (), ((0,),), 0, 0), 1, wanted, work=3, way=way, dead=True)

    # Step (4)

    def test_who_stays_has_waited_one_beat_more(self):
        state = (0, ((1, 2), (0, 1)), ((0,),), 0, 0)
        wanted = (2, 1, 0, 0, 0, 0, (0, ((0, 2), (1, 1), (1, 1)), ((0,),), 0, 0))
        self.tells(state, 2, wanted, room=5, patience=4)

    def test_who_has_waited_patience_beats_gives_up_and_leaves(self):
        state = (0, ((1, 2), (1, 2), (0, 2), (1, 1)), ((0,),), 0, 0)
        wanted = (0, 1, 0, 0, 2, 1, (0, ((1, 2),), ((1,),), 0, 0))
        self.tells(state, 0, wanted, room=5, patience=3)

    def test_who_has_waited_patience_beats_stays_as_a_dead_one_if_kept(self):
        state = (1, ((1, 2), (1, 2), (0, 2), (1, 1)), ((0,),), 0, 0)
        wanted = (0, 1, 1, 0, 2, 1, (2, ((1, 2),), ((1,),), 0, 0))
        self.tells(state, 0, wanted, work=2, room=5, patience=3, dead=True)

    def test_with_patience_1_those_of_this_beat_give_up(self):
        wanted = (3, 1, 0, 0, 2, 0, (0, (), ((2,),), 0, 0))
        self.tells((0, (), ((0,),), 0, 0), 3, wanted, patience=1)
        wanted = (3, 1, 0, 0, 2, 0, (2, (), ((2,),), 0, 0))
        self.tells((0, (), ((0,),), 0, 0), 3, wanted, patience=1, dead=True)

    # Step (5)

    def test_who_failed_asks_again_with_one_try_less_or_is_lost(self):
        state = (0, ((0, 1), (1, 1), (2, 1)), ((1, 1),), 0, 0)
        wanted = (5, 1, 0, 5, 2, 1, (0, (), ((2, 4),), 0, 0))
        self.tells(state, 3, wanted, tries=3)

    def test_both_refused_and_given_up_ones_may_be_lost(self):
        state = (0, ((0, 1), (0, 1)), ((3,),), 0, 0)
        wanted = (3, 1, 0, 2, 1, 3, (0, ((0, 1),), ((0,),), 0, 0))
        self.tells(state, 0, wanted)

    def test_with_one_try_who_fails_is_lost(self):
        state = (0, ((0, 1), (0, 1)), ((), ()), 0, 0)
        wanted = (3, 1, 0, 2, 1, 3, (0, ((0, 1),), ((), ()), 0, 0))
        self.tells(state, 3, wanted, tries=1, wait=2)

    def test_who_failed_asks_again_wait_beats_later(self):
        for wait in (1, 2, 3):
            setting = setting_with(patience=1, wait=wait)
            state = first_state(setting)
            came = [line[0] for line in run(setting, state, (2, 0, 0, 0, 0))]
            wanted = [2, 0, 0, 0, 0]
            wanted[wait] = 1
            self.assertEqual(came, wanted)

    def test_it_goes_behind_the_other_tuples_of_later(self):
        state = (0, ((2, 1),) * 3, ((1, 0), (5, 6), (7, 8)), 0, 0)
        wanted = (2, 1, 0, 2, 2, 1, (0, (), ((5, 6), (7, 8), (0, 3)), 0, 0))
        self.tells(state, 1, wanted, tries=3, wait=3)

    # Step (6)

    def test_a_token_more_for_each_answered_one(self):
        wanted = (2, 2, 0, 0, 0, 0, (0, (), ((0,),), 3, 0))
        self.tells((0, (), ((0,),), 1, 0), 2, wanted, work=3, tokens=4)

    def test_at_most_the_tokens_of_the_setting(self):
        wanted = (3, 3, 0, 0, 0, 0, (0, (), ((0,),), 2, 0))
        self.tells((0, (), ((0,),), 1, 0), 3, wanted, work=3, tokens=2)
        wanted = (3, 3, 0, 0, 0, 0, (0, (), ((0,),), 0, 0))
        self.tells((0, (), ((0,),), 0, 0), 3, wanted, work=3, tokens=0)

    def test_no_token_for_work_for_nothing(self):
        wanted = (0, 0, 2, 0, 0, 0, (1, (), ((0,),), 0, 0))
        self.tells((3, (), ((0,),), 0, 0), 0, wanted, work=2, tokens=4, dead=True)

    def test_no_tokens_where_the_setting_has_none(self):
        wanted = (2, 2, 0, 0, 0, 0, (0, (), ((0,),), 0, 0))
        self.tells((0, (), ((1,),), 0, 0), 1, wanted, work=3)

    # Step (7)

    def test_refused_and_given_up_ones_together_shut_the_door(self):
        state = (0, ((1, 1), (1, 1), (1, 1)), ((0,),), 0, 0)
        for many, door in ((1, 2), (2, 2), (3, 2)):
            wanted = (1, 1, 0, 1, 2, 0, (0, (), ((3,),), 0, door))
            self.tells(state, 1, wanted, fuse=(many, 2))
        wanted = (0, 1, 0, 0, 2, 0, (0, (), ((2,),), 0, 0))
        self.tells(state, 0, wanted, fuse=(3, 2))

    def test_the_door_is_shut_for_rest_beats(self):
        for rest in (1, 2, 3):
            setting = setting_with(patience=1, tries=1, fuse=(1, rest))
            told = run(setting, first_state(setting), (2, 1, 1, 1, 1))
            refused = [line[3] for line in told]
            self.assertEqual(refused, [0] + [1] * rest + [0] * (4 - rest))
            doors = [line[6][4] for line in told]
            self.assertEqual(doors, list(range(rest, 0, -1)) + [0] * (5 - rest))

    def test_what_fails_while_the_door_is_shut_does_not_keep_it_shut(self):
        for door in (1, 2, 3):
            wanted = (9, 0, 0, 9, 0, 0, (0, (), ((9,),), 0, door - 1))
            self.tells((0, (), ((0,),), 0, door), 9, wanted, fuse=(1, 3))

    def test_what_found_no_token_does_not_shut_the_door(self):
        wanted = (0, 0, 0, 0, 0, 3, (0, (), ((0,),), 0, 0))
        self.tells((0, (), ((3,),), 0, 0), 0, wanted, tokens=1, fuse=(1, 1))

    def test_without_a_fuse_the_door_stays_as_it_is(self):
        wanted = (999, 1, 0, 996, 0, 0, (0, ((1, 1), (1, 1)), ((996,),), 0, 0))
        self.tells((0, (), ((0,),), 0, 0), 999, wanted)


class AgainstTheModel(unittest.TestCase):
    def check(self, setting, state, fresh):
        told = beat(setting, state, fresh)
        self.assertEqual(kinds_of(told), kinds_of(slow_beat(setting, state, fresh)), (setting, state, fresh))
        self.assertIs(is_state(setting, told[6]), True)
        return told[6]

    def test_any_states_of_any_settings(self):
        dice = random.Random(12)
        for _ in range(20000):
            setting = some_setting(dice)
            self.check(setting, some_state(dice, setting), dice.randint(0, 9))

    def test_rows_from_the_first_state(self):
        dice = random.Random(13)
        for _ in range(1000):
            setting = some_setting(dice)
            state = first_state(setting)
            for _ in range(20):
                state = self.check(setting, state, dice.choice((0, 0, 1, 1, 2, 3, 7, 20)))

    def test_each_setting_in_a_few_beats(self):
        for at, setting in enumerate(all_settings()):
            if at % 11 == 0:
                state = first_state(setting)
                for fresh in (4, 1, 6):
                    state = self.check(setting, state, fresh)


class FreshAsks(unittest.TestCase):
    def test_0_and_999(self):
        setting = setting_with(room=5, work=3, patience=1)
        state = first_state(setting)
        self.assertEqual(beat(setting, state, 0)[0], 0)
        wanted = (999, 3, 0, 994, 2, 0, (0, (), ((996,),), 0, 0))
        self.assertEqual(beat(setting, state, 999), wanted)

    def test_no_fresh(self):
        state = first_state(EXAMPLE)
        for fresh in strange_values() + [1000, -1, True, False, None, "4", (4,), [4], 10 ** 12 - 1]:
            if fresh in (0, 1) and not isinstance(fresh, bool):
                continue
            with self.assertRaises(NoFresh, msg=fresh):
                beat(EXAMPLE, state, fresh)


class LargeNumbers(unittest.TestCase):
    def test_later_just_below_10_to_12(self):
        setting = setting_with(tries=3, patience=3)
        many = 10 ** 12 - 1
        wanted = (2 * many + 999, 1, 0, 2 * many + 996, 0, many - 3, (0, ((0, 1),) * 2, ((many, 999),), 0, 0))
        told = beat(setting, (0, (), ((many, many),), 0, 0), 999)
        self.assertEqual(kinds_of(told), kinds_of(wanted))

    def test_later_above_10_to_12_as_a_beat_returned_it(self):
        setting = setting_with(tries=3, room=2)
        told = beat(setting, (0, ((1, 1), (1, 1)), ((0, 10 ** 12 - 1),), 0, 0), 0)
        self.assertEqual(told, (10 ** 12 - 1, 1, 0, 10 ** 12 - 1, 1, 0, (0, (), ((10 ** 12, 0),), 0, 0)))
        again = beat(setting, told[6], 1)
        wanted = (10 ** 12 + 1, 1, 0, 10 ** 12 - 1, 0, 10 ** 12 - 2, (0, ((0, 1),), ((0, 1),), 0, 0))
        self.assertEqual(again, wanted)

    def test_with_a_shut_door_and_with_tokens(self):
        many = 10 ** 12 - 1
        told = beat(setting_with(fuse=(1, 1)), (0, (), ((many,),), 0, 1), 2)
        self.assertEqual(told, (many + 2, 0, 0, many + 2, 0, many, (0, (), ((2,),), 0, 0)))
        told = beat(setting_with(tokens=4), (0, (), ((many,),), 3, 0), 2)
        self.assertEqual(told, (5, 1, 0, 2, 0, many - 3, (0, ((0, 1),) * 2, ((2,),), 1, 0)))

    def test_rows_through_large_numbers(self):
        setting = setting_with(tries=3, wait=3)
        state = (0, (), ((10 ** 12 - 1,) * 2,) * 3, 0, 0)
        told = totals(setting, state, (999,) * 200)
        self.assertEqual(told[1], 200)


class Refusals(unittest.TestCase):
    def test_the_order_for_beat(self):
        state = first_state(EXAMPLE)
        for setting in strange_values() + [list(EXAMPLE)]:
            with self.assertRaises(NoSetting):
                beat(setting, None, None)
            with self.assertRaises(NoSetting):
                beat(setting, state, 4)
        for wrong in strange_values() + [list(state), first_state(setting_with(tries=3))]:
            with self.assertRaises(NoState):
                beat(EXAMPLE, wrong, -1)
            with self.assertRaises(NoState):
                beat(EXAMPLE, wrong, 4)
        with self.assertRaises(NoFresh):
            beat(EXAMPLE, state, -1)

    def test_the_order_for_run_and_totals(self):
        state = first_state(EXAMPLE)
        for function in (run, totals):
            for setting in strange_values() + [list(EXAMPLE)]:
                with self.assertRaises(NoSetting):
                    function(setting, None, None)
                with self.assertRaises(NoSetting):
                    function(setting, state, (1,))
            for wrong in strange_values() + [list(state)]:
                with self.assertRaises(NoState):
                    function(EXAMPLE, wrong, (1000,))
                with self.assertRaises(NoState):
                    function(EXAMPLE, wrong, ())

    def test_no_row(self):
        state = first_state(EXAMPLE)
        wrong_rows = [value for value in strange_values() if value != ()]
        for row in wrong_rows + [(1, 1000), (1, -1), (True,), [1, 2], (1,) * 201, (0,) * 1000,
                                 (1,) * 200 + (None,), range(3), (1, (2,))]:
            for function in (run, totals):
                with self.assertRaises(NoRow, msg=row):
                    function(EXAMPLE, state, row)


class IsRow(unittest.TestCase):
    def test_rows_of_any_length(self):
        for row in ((), (0,), (999,), (0, 999, 5), (1,) * 200, (1,) * 201, tuple(range(1000))):
            self.assertIs(is_row(row), True)

    def test_what_is_no_row(self):
        for thing in strange_values():
            self.assertIs(is_row(thing), thing == (), thing)
        for thing in ([], [1], [1, 2], (1, True), (False,), (1000,), (-1,), (1, 1000), (0, -1), 5, "12",
                      ("1",), ("12",), (None,), ((1,),), ([1],), {}, {1: 1}, (1,) * 500 + (1000,), range(3),
                      (deep(38, tuple),), NoRow()):
            self.assertIs(is_row(thing), False, thing)


class Rows(unittest.TestCase):
    def test_the_empty_row(self):
        state = (1, (), ((3,),), 0, 0)
        self.assertEqual(run(EXAMPLE, state, ()), ())
        self.assertEqual(totals(EXAMPLE, state, ()), (0, 0, 0, 0, 0, 0, state))
        self.assertEqual(kinds_of(totals(EXAMPLE, state, ())), kinds_of((0, 0, 0, 0, 0, 0, state)))

    def test_a_row_worked_out_by_hand(self):
        state = first_state(EXAMPLE)
        wanted = (
            (4, 2, 0, 0, 2, 0, (2, (), ((2,),), 0, 0)),
            (3, 0, 2, 1, 2, 2, (2, (), ((1,),), 0, 0)),
            (1, 0, 2, 0, 1, 1, (1, (), ((0,),), 0, 0)),
        )
        self.assertEqual(run(EXAMPLE, state, (4, 1, 0)), wanted)
        self.assertEqual(totals(EXAMPLE, state, (4, 1, 0)), (8, 2, 4, 1, 5, 3, (1, (), ((0,),), 0, 0)))

    def test_run_is_beat_after_beat_and_totals_its_sums(self):
        dice = random.Random(14)
        for _ in range(500):
            setting = some_setting(dice)
            state = some_state(dice, setting)
            row = tuple(dice.randint(0, 6) for _ in range(dice.randint(0, 9)))
            told, here = [], state
            for fresh in row:
                told.append(beat(setting, here, fresh))
                here = told[-1][6]
            self.assertEqual(kinds_of(run(setting, state, row)), kinds_of(tuple(told)))
            sums = tuple(sum(line[k] for line in told) for k in range(6))
            self.assertEqual(kinds_of(totals(setting, state, row)), kinds_of(sums + (here,)))

    def test_two_parts_one_after_the_other_are_the_whole(self):
        dice = random.Random(15)
        for _ in range(500):
            setting = some_setting(dice)
            state = some_state(dice, setting)
            row = tuple(dice.randint(0, 6) for _ in range(12))
            cut = dice.randint(0, 12)
            between = totals(setting, state, row[:cut])[6]
            self.assertEqual(
                run(setting, state, row[:cut]) + run(setting, between, row[cut:]), run(setting, state, row)
            )

    def test_200_numbers_are_run(self):
        for row in ((0,) * 200, (999,) * 200, tuple(range(200))):
            told = run(EXAMPLE, first_state(EXAMPLE), row)
            self.assertEqual(len(told), 200)
            self.assertEqual(totals(EXAMPLE, first_state(EXAMPLE), row)[6], told[-1][6])

    def test_no_ask_is_forgotten(self):
        dice = random.Random(16)
        for _ in range(500):
            setting = some_setting(dice)
            row = tuple(dice.randint(0, 9) for _ in range(dice.randint(0, 15)))
            came, answered, _, _, _, lost, state = totals(setting, first_state(setting), row)
            waiting = len(state[1]) + sum(sum(again) for again in state[2])
            self.assertEqual(sum(row), answered + lost + waiting)
            self.assertLessEqual(came, setting[3] * sum(row))


class Calls(unittest.TestCase):
    def test_by_names_in_another_order(self):
        state = (1, (), ((3,),), 0, 0)
        self.assertEqual(beat(fresh=2, state=state, setting=EXAMPLE), beat(EXAMPLE, state, 2))
        self.assertEqual(run(row=(2, 1), setting=EXAMPLE, state=state), run(EXAMPLE, state, (2, 1)))
        self.assertEqual(totals(state=state, row=(2, 1), setting=EXAMPLE), totals(EXAMPLE, state, (2, 1)))
        self.assertIs(is_row(thing=(1, 2)), True)

    def test_asked_twice_the_same(self):
        state = (1, (), ((3,),), 0, 0)
        for function, last in ((beat, 5), (run, (5, 1)), (totals, (5, 1))):
            self.assertEqual(function(EXAMPLE, state, last), function(EXAMPLE, state, last))

    def test_a_bool_is_told_from_its_number_also_behind_a_good_call(self):
        state = (1, (), ((1,),), 0, 0)
        beat(EXAMPLE, state, 1)
        run(EXAMPLE, state, (1,))
        with self.assertRaises(NoFresh):
            beat(EXAMPLE, state, True)
        with self.assertRaises(NoState):
            beat(EXAMPLE, (True, (), ((1,),), 0, 0), 1)
        with self.assertRaises(NoRow):
            run(EXAMPLE, state, (True,))

    def test_what_is_handed_in_is_unchanged(self):
        setting, state, row = copy.deepcopy((EXAMPLE, (1, (), ((3,),), 0, 0), (5, 1)))
        run(setting, state, row)
        totals(setting, state, row)
        self.assertEqual((setting, state, row), (EXAMPLE, (1, (), ((3,),), 0, 0), (5, 1)))
        thing = [[1, {"a": [2]}], (3, [4])]
        before = copy.deepcopy(thing)
        is_row(thing)
        for call in (lambda: run(thing, thing, thing), lambda: beat(EXAMPLE, thing, thing),
                     lambda: totals(EXAMPLE, state, thing)):
            with self.assertRaises(ValueError):
                call()
        self.assertEqual(thing, before)

    def test_each_function_is_defined_in_its_file(self):
        for name in ("beat", "is_row", "run", "totals"):
            self.assertEqual(getattr(beats, name).__module__, "comesback.beats")


if __name__ == "__main__":
    unittest.main()
