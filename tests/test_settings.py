import copy
import unittest

from comesback import settings
from comesback.errors import NoSetting, ServeError
from comesback.settings import first_state, is_setting, is_state

from tests.model import NAMES, all_settings, deep, kinds_of, setting_with, strange_values

NUMBER_ENDS = (("work", 3), ("room", 5), ("patience", 4), ("tries", 3), ("wait", 3))
NO_NUMBERS = (True, False, None, "1", "", [1], (1,), {1: 1}, -1, 10 ** 12 - 1, -10 ** 12 + 1)


class EqualToAll:
    """An object that says it is equal to whatever it is compared with."""

    def __eq__(self, other):
        return True


class IsSetting(unittest.TestCase):
    def refused(self, thing):
        self.assertIs(is_setting(thing), False, thing)

    def test_all_settings_there_are(self):
        count = 0
        for setting in all_settings():
            count += 1
            self.assertIs(is_setting(setting), True, setting)
        self.assertEqual(count, 129600)

    def test_the_setting_of_the_example(self):
        self.assertIs(is_setting((2, 4, 1, 2, 1, "oldest", True, None, None)), True)

    def test_the_five_numbers(self):
        for name, high in NUMBER_ENDS:
            with self.subTest(name):
                self.refused(setting_with(**{name: 0}))
                self.refused(setting_with(**{name: high + 1}))
                for value in NO_NUMBERS:
                    self.refused(setting_with(**{name: value}))

    def test_the_way(self):
        for value in NO_NUMBERS + ("Oldest", "oldest ", "NEWEST", "old", "oldestnewest",
                                   0, 1, ("oldest",), ["newest"], ("oldest", "newest")):
            self.refused(setting_with(way=value))

    def test_an_object_is_no_text_whatever_it_is_equal_to(self):
        self.refused(setting_with(way=EqualToAll()))

    def test_dead_is_a_bool_and_nothing_else(self):
        for value in (0, 1, None, "True", "yes", "", (), [], [True], (True,), {}, -1):
            self.refused(setting_with(dead=value))

    def test_the_tokens(self):
        for value in NO_NUMBERS + (5,):
            if value is not None:
                self.refused(setting_with(tokens=value))

    def test_the_fuse(self):
        for value in (
            True, False, 1, 0, "1 1", (), (1,), (1, 1, 1), [], [1, 1], {1: 1}, {},
            (0, 1), (4, 1), (1, 0), (1, 4), (True, 1), (1, True), (False, 1), (None, 1),
            (1, None), ("1", 1), (1, "1"), ([1], 1), (1, (1,)), (1, -1), ((1, 1),), (None, None),
        ):
            self.refused(setting_with(fuse=value))

    def test_other_lengths(self):
        whole = setting_with()
        for size in range(9):
            self.refused(whole[:size])
        self.refused(whole + (None,))
        self.refused(whole + whole)
        self.refused(whole[1:])

    def test_no_list_stands_for_the_tuple(self):
        self.refused(list(setting_with()))
        self.refused(dict(zip(NAMES, setting_with())))
        self.refused((setting_with(),))

    def test_values_of_other_kinds(self):
        for value in strange_values():
            self.refused(value)
        self.refused(NoSetting("this"))
        self.refused(NoSetting)

    def test_deep_values_in_each_part(self):
        for name in NAMES:
            for kind in (tuple, list, dict):
                self.refused(setting_with(**{name: deep(39, kind)}))

    def test_by_name_and_twice_and_unchanged(self):
        thing = [list(setting_with()), {"a": [1]}]
        before = copy.deepcopy(thing)
        self.assertIs(is_setting(thing=thing), False)
        self.assertIs(is_setting(thing=thing), False)
        self.assertEqual(thing, before)
        self.assertIs(is_setting(thing=setting_with()), True)


class FirstState(unittest.TestCase):
    def test_of_several_settings(self):
        self.assertEqual(first_state((2, 4, 1, 2, 1, "oldest", True, None, None)), (0, (), ((0,),), 0, 0))
        self.assertEqual(first_state(setting_with(tries=1, wait=3)), (0, (), ((), (), ()), 0, 0))
        self.assertEqual(first_state(setting_with(tries=1, wait=1)), (0, (), ((),), 0, 0))
        self.assertEqual(
            first_state(setting_with(tries=3, wait=2, tokens=4)), (0, (), ((0, 0), (0, 0)), 4, 0)
        )
        self.assertEqual(first_state(setting_with(tokens=0)), (0, (), ((0,),), 0, 0))
        self.assertEqual(first_state(setting_with(tokens=1, fuse=(3, 2))), (0, (), ((0,),), 1, 0))

    def test_exactly_of_these_kinds(self):
        self.assertEqual(
            kinds_of(first_state(setting_with(tokens=1, tries=3))),
            kinds_of((0, (), ((0, 0),), 1, 0)),
        )

    def test_is_a_state_of_each_setting(self):
        for at, setting in enumerate(all_settings()):
            if at % 7 == 0:
                self.assertIs(is_state(setting, first_state(setting)), True, setting)

    def test_no_setting(self):
        for value in strange_values() + [list(setting_with()), setting_with(work=0)]:
            with self.assertRaises(NoSetting):
                first_state(value)

    def test_by_name_and_twice(self):
        setting = setting_with(tokens=2)
        self.assertEqual(first_state(setting=setting), first_state(setting))
        self.assertEqual(setting, setting_with(tokens=2))


class IsState(unittest.TestCase):
    def setUp(self):
        self.setting = setting_with(
            room=4, patience=4, tries=3, wait=2, dead=True, tokens=3, fuse=(2, 2)
        )
        self.state = (1, ((2, 3), (0, 3), (1, 1)), ((0, 5), (1, 0)), 3, 2)

    def of(self, thing, wanted, **parts):
        setting = dict(zip(NAMES, self.setting))
        setting.update(parts)
        self.assertIs(is_state(tuple(setting.values()), thing), wanted, (parts, thing))

    def put(self, at, value):
        return self.state[:at] + (value,) + self.state[at + 1:]

    def test_good_states(self):
        self.of(self.state, True)
        self.of(self.put(0, 0), True)
        self.of(self.put(1, ()), True)
        self.of((4, (), ((0, 0), (0, 0)), 0, 0), True)
        self.of((0, ((0, 1),) * 4, ((0, 0), (0, 0)), 0, 0), True)
        self.of((3, ((2, 1),), ((0, 0), (0, 0)), 0, 0), True)

    def test_numbers_in_later_have_no_end(self):
        for many in (999, 1000, 10 ** 12 - 1, 10 ** 12, 10 ** 30):
            self.of(self.put(2, ((many, 0), (0, many))), True)

    def test_too_many_in_the_queue_together_with_the_dead(self):
        self.of(self.put(0, 2), False)
        self.of(self.put(0, 5), False)
        self.of((5, (), ((0, 0), (0, 0)), 0, 0), False)
        self.of(self.put(1, ((0, 1),) * 4), False)
        self.of((0, ((0, 1),) * 5, ((0, 0), (0, 0)), 0, 0), False)
        self.of((4, ((0, 1),), ((0, 0), (0, 0)), 0, 0), False)

    def test_dead_ones_are_only_where_the_setting_keeps_them(self):
        self.of(self.state, False, dead=False)
        self.of(self.put(0, 0), True, dead=False)

    def test_dead_is_a_number_from_0_on(self):
        for value in (-1, True, False, None, "1", (1,), [1], {}):
            self.of(self.put(0, value), False)
        self.of(self.put(0, False), False, dead=False)
        self.of(self.put(0, None), False, dead=False)

    def test_ages(self):
        self.of(self.put(1, ((0, 1), (0, 2))), False)
        self.of(self.put(1, ((0, 2), (0, 1), (0, 2))), False)
        self.of(self.put(1, ((0, 3), (0, 2), (0, 1))), True)
        self.of(self.put(1, ((0, 2), (0, 2), (0, 2))), True)
        for age in (0, 4, 5, -1, True, None, "1", (1,), [1]):
            self.of(self.put(1, ((0, age),)), False)
            self.of(self.put(1, ((0, 3), (0, age))), False)

    def test_age_ends_one_below_patience(self):
        for patience in (2, 3, 4):
            self.of(self.put(1, ((0, patience - 1),)), True, patience=patience)
            self.of(self.put(1, ((0, patience),)), False, patience=patience)

    def test_with_patience_1_nobody_waits_between_beats(self):
        self.of(self.put(1, ()), True, patience=1)
        for age in (0, 1, 2):
            self.of(self.put(1, ((0, age),)), False, patience=1)

    def test_tries_behind(self):
        for left in (-1, 3, 4, True, False, None, "0", (0,), [0]):
            self.of(self.put(1, ((left, 1),)), False)
        for tries in (1, 2, 3):
            later = ((0,) * (tries - 1),) * 2
            for left in range(5):
                self.of((0, ((left, 1),), later, 0, 0), left < tries, tries=tries)

    def test_the_queue_is_a_tuple_of_pairs(self):
        for queue in (
            None, 0, True, "", {}, [], [(0, 1)], ([0, 1],), ((0,),), ((0, 1, 1),), ((),),
            (0, 1), (None,), ("01",), ({0: 1},), (((0, 1),),),
        ):
            self.of(self.put(1, queue), False)

    def test_later_has_a_tuple_for_each_beat_to_wait(self):
        for wait in (1, 2, 3):
            for size in range(5):
                self.of(self.put(2, ((0, 0),) * size), size == wait, wait=wait)

    def test_later_has_a_number_for_each_try_but_one(self):
        for tries in (1, 2, 3):
            for size in range(5):
                state = (0, (), ((0,) * size,) * 2, 0, 0)
                self.of(state, size == tries - 1, tries=tries)
        self.of(self.put(2, ((0, 0), (0,))), False)
        self.of(self.put(2, ((0, 0, 0), (0, 0))), False)

    def test_later_has_integers_from_0_on(self):
        for value in (-1, -10 ** 12 + 1, True, False, None, "0", (0,), [0], {}):
            self.of(self.put(2, ((0, value), (0, 0))), False)
            self.of(self.put(2, ((0, 0), (value, 0))), False)

    def test_later_is_of_tuples(self):
        for later in (None, 0, "", [], [(0, 0), (0, 0)], ([0, 0], [0, 0]), ((0, 0), [0, 0]),
                      {}, ({}, {}), (0, 0), ("00", "00"), (None, None)):
            self.of(self.put(2, later), False)

    def test_tokens(self):
        for value in (0, 1, 2, 3):
            self.of(self.put(3, value), True)
        for value in (-1, 4, 5, True, False, None, "1", (1,), [1]):
            self.of(self.put(3, value), False)
        for tokens in (None, 0):
            self.of(self.put(3, 0), True, tokens=tokens)
            for value in (1, -1, None, False):
                self.of(self.put(3, value), False, tokens=tokens)

    def test_door(self):
        for value in (0, 1, 2):
            self.of(self.put(4, value), True)
        for value in (-1, 3, 4, True, False, None, "1", (1,), [1]):
            self.of(self.put(4, value), False)
        self.of(self.put(4, 3), True, fuse=(1, 3))
        self.of(self.put(4, 2), False, fuse=(3, 1))
        self.of(self.put(4, 0), True, fuse=None)
        for value in (1, -1, None, False):
            self.of(self.put(4, value), False, fuse=None)

    def test_other_lengths_and_a_list(self):
        for size in range(5):
            self.of(self.state[:size], False)
        self.of(self.state + (0,), False)
        self.of(list(self.state), False)
        self.of((self.state,), False)

    def test_values_of_other_kinds(self):
        for value in strange_values():
            self.of(value, False)
        self.of(NoSetting(), False)
        for at in range(5):
            for kind in (tuple, list, dict):
                self.of(self.put(at, deep(39, kind)), False)

    def test_no_setting_whatever_stands_behind_it(self):
        for setting in strange_values() + [list(self.setting), self.setting[:8]]:
            for thing in (self.state, None, [], deep(40, list)):
                with self.assertRaises(NoSetting):
                    is_state(setting, thing)

    def test_no_setting_is_a_serve_error(self):
        with self.assertRaises(ServeError):
            is_state(setting_with(fuse=[1, 1]), self.state)

    def test_by_names_in_another_order_and_unchanged(self):
        thing = [list(self.state)]
        before = copy.deepcopy(thing)
        self.assertIs(is_state(thing=thing, setting=self.setting), False)
        self.assertEqual(thing, before)
        self.assertIs(is_state(thing=self.state, setting=self.setting), True)
        self.assertIs(is_state(thing=self.state, setting=self.setting), True)


class InItsFile(unittest.TestCase):
    def test_each_function_is_defined_there(self):
        for name in ("is_setting", "first_state", "is_state"):
            self.assertEqual(getattr(settings, name).__module__, "comesback.settings")


if __name__ == "__main__":
    unittest.main()
