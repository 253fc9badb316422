import random
import unittest

from comesback import alike as alike_file
from comesback.alike import alike, shows_alike
from comesback.errors import NoMost, NoSetting, TooMany

from tests.model import kinds_of, some_plain_setting, strange_values
from tests.refusals import ANY_KIND, NO_DIGITS, SETTING_KIND, check_calls, refuse_in_order
from tests.slow import slow_first, slow_next, slow_reach, slow_run
from tests.slow_loads import slow_alike, slow_pairs, slow_told

MOST_KIND = (3, (NoMost, NO_DIGITS))
EXAMPLE = (2, 4, 1, 2, 1, "oldest", True, None, None)
ONCE = (1, 1, 1, 1, 1, "oldest", False, None, None)
# Exactly 2,000 states, and one more.
JUST_FEW = ((3, 5, 2, 2, 3, "newest", False, None, (3, 2)), 6)
JUST_MANY = ((1, 3, 2, 2, 3, "oldest", False, 3, (1, 2)), 4)

# Each with two settings, most, and the row that tells them apart; by hand.
APART_BY_HAND = (
    # Two are done in a beat, or one.
    (ONCE, (2, 2) + ONCE[2:], 2, (2,)),
    (ONCE, (2, 2) + ONCE[2:], 9, (2,)),
    # The second one waits, or is turned away at once.
    ((1, 1, 2) + ONCE[3:], (1, 2, 2) + ONCE[3:], 2, (2, 0)),
    # Whoever was refused comes again in the next beat, or not at all.
    (ONCE, (1, 1, 1, 2) + ONCE[4:], 2, (2, 0)),
    # Or in the one behind it.
    (ONCE[:3] + (2, 1) + ONCE[5:], ONCE[:3] + (2, 2) + ONCE[5:], 2, (2, 0)),
    (ONCE[:3] + (2, 2) + ONCE[5:], ONCE[:3] + (2, 3) + ONCE[5:], 2, (2, 0, 0)),
    # Whoever was refused twice comes once more, or not.
    (ONCE[:3] + (2, 1) + ONCE[5:], ONCE[:3] + (3, 1) + ONCE[5:], 2, (2, 2, 0, 0)),
    (ONCE[:3] + (2, 1) + ONCE[5:], ONCE[:3] + (3, 1) + ONCE[5:], 3, (3, 0, 0)),
    # The door is shut for one beat, or not.
    (ONCE, ONCE[:8] + ((1, 1),), 2, (2, 1)),
    (ONCE[:8] + ((1, 1),), ONCE[:8] + ((1, 2),), 2, (2, 0, 1)),
    (ONCE[:8] + ((1, 1),), ONCE[:8] + ((2, 1),), 2, (2, 1)),
    # Whoever comes again needs a token.
    (ONCE[:3] + (2,) + ONCE[4:], ONCE[:3] + (2,) + ONCE[4:7] + (0, None), 2, (2, 0)),
    # What was given up is done, or what is new.
    ((1, 2) + ONCE[2:], (1, 2) + ONCE[2:6] + (True, None, None), 2, (2, 1)),
)
APART = (
    ((1, 3, 3, 2, 1, "oldest", False, None, (1, 2)), (1, 3, 1, 2, 1, "oldest", False, None, (1, 2)), 4, (2, 0)),
    ((1, 2, 3, 3, 2, "newest", True, None, None), (1, 2, 3, 2, 2, "newest", True, None, None), 2,
     (2, 1, 2, 1, 0, 0, 0)),
    ((3, 1, 1, 3, 3, "newest", True, None, None), (3, 1, 1, 2, 3, "newest", True, None, None), 2,
     (2, 0, 0, 2, 0, 0, 0, 0, 0, 0)),
    ((2, 5, 3, 1, 3, "newest", False, None, (2, 1)), (2, 5, 3, 1, 3, "oldest", False, None, (2, 1)), 3,
     (3, 2, 2, 0)),
    ((1, 4, 4, 1, 1, "newest", True, 3, (3, 1)), (1, 3, 4, 1, 1, "newest", True, 3, (3, 1)), 4, (4, 0, 0, 0)),
    ((2, 2, 4, 3, 1, "oldest", False, None, None), (2, 2, 4, 3, 1, "oldest", False, 2, None), 4, (3, 4, 0, 0)),
    ((3, 1, 2, 2, 3, "newest", False, 4, (2, 1)), (3, 1, 2, 2, 3, "newest", False, None, (2, 1)), 2,
     (2, 2, 2, 2, 2, 1, 1, 0, 0)),
)
# Pairs of settings that are alike for most, though they differ in one part.
ALIKE = (
    (ONCE, ONCE, 3),
    (EXAMPLE, EXAMPLE, 2),
    ((1, 3, 2, 2, 1, "oldest", False, 1, (2, 1)), (1, 3, 2, 2, 1, "oldest", False, 1, (2, 1)), 2),
    ((3, 1, 3, 2, 1, "newest", True, None, (1, 2)), (3, 1, 3, 2, 1, "oldest", True, None, (1, 2)), 3),
    ((2, 1, 2, 3, 2, "oldest", False, None, None), (3, 1, 2, 3, 2, "oldest", False, None, None), 2),
    ((1, 2, 2, 3, 2, "oldest", True, 0, None), (1, 2, 2, 3, 1, "oldest", True, 0, None), 3),
    ((2, 1, 1, 2, 2, "oldest", False, 0, (1, 2)), (2, 1, 1, 2, 2, "oldest", True, 0, (1, 2)), 4),
    ((1, 1, 2, 3, 1, "newest", True, 2, None), (1, 1, 3, 3, 1, "newest", True, 2, None), 4),
    ((2, 5, 3, 2, 1, "oldest", True, 1, None), (3, 5, 3, 2, 1, "oldest", True, 1, None), 2),
)


class Alike(unittest.TestCase):
    def tells(self, one, other, most, wanted):
        told = alike(one, other, most)
        self.assertEqual(kinds_of(told), kinds_of(wanted))
        self.assertIs(shows_alike(one, other, most, told), True)

    def test_apart(self):
        for one, other, most, row in APART_BY_HAND + APART:
            with self.subTest(one=one, other=other, most=most):
                self.tells(one, other, most, ("apart", row))

    def test_apart_the_other_way_about(self):
        for one, other, most, row in APART_BY_HAND + APART:
            with self.subTest(one=one, other=other, most=most):
                self.tells(other, one, most, ("apart", row))

    def test_the_first_of_the_shortest_rows(self):
        for one, other, most, row in APART_BY_HAND + APART:
            with self.subTest(one=one, other=other, most=most):
                self.assertEqual(slow_alike(one, other, most), ("apart", row))

    def test_a_setting_and_itself(self):
        first = (0, (), ((),), 0, 0)
        for most in range(1, 10):
            self.tells(ONCE, ONCE, most, ("alike", ((first, first),)))
        for setting, most in ((EXAMPLE, 3), (ALIKE[2][0], 4), (APART[3][0], 3)):
            states = sorted(slow_reach(setting, slow_first(setting), most))
            self.assertGreater(len(states), 3)
            self.tells(setting, setting, most, ("alike", tuple((state, state) for state in states)))

    def test_pairs_by_hand(self):
        first, again = (0, (), ((0,),), 0, 0), (0, (), ((1,),), 0, 0)
        one = (1, 1, 1, 2, 1, "oldest", False, None, None)
        self.tells(one, one, 2, ("alike", ((first, first), (again, again), ((0, (), ((2,),), 0, 0),) * 2)))
        # Where nobody may ask again it does not matter when he would.
        soon, late = (1, 1, 1, 2, 1, "oldest", False, 0, None), (1, 1, 1, 2, 2, "oldest", False, 0, None)
        far, near = (0, (), ((0,), (1,)), 0, 0), (0, (), ((1,), (0,)), 0, 0)
        self.tells(soon, late, 2, ("alike", (
            (first, (0, (), ((0,), (0,)), 0, 0)), (first, near),
            (again, far), (again, (0, (), ((1,), (1,)), 0, 0)))))

    def test_all_pairs_ascending(self):
        for one, other, most in ALIKE:
            for first, second in ((one, other), (other, one)):
                with self.subTest(first=first, second=second):
                    wanted = tuple(sorted(slow_pairs(first, second, most)))
                    self.tells(first, second, most, ("alike", wanted))

    def test_what_does_not_matter_where_room_is_not_above_work(self):
        dice = random.Random(70)
        done = 0
        while done < 60:
            one = some_plain_setting(dice)
            room = dice.randint(1, one[0])
            one = one[:1] + (room,) + one[2:]
            place = dice.choice((2, 5, 6))
            other = list(one)
            other[place] = {2: dice.randint(1, 4), 5: dice.choice(("oldest", "newest")),
                            6: dice.choice((True, False))}[place]
            other = tuple(other)
            most = dice.randint(1, 3)
            if slow_pairs(one, other, most, 200) is not None:
                told = alike(one, other, most)
                self.assertEqual(told[0], "alike")
                # Nobody stays in the queue: the states are the same.
                self.assertEqual([first for first, _ in told[1]], [second for _, second in told[1]])
                done += one != other

    def test_as_the_slow_model_tells(self):
        dice = random.Random(71)
        seen = {"alike": 0, "apart": 0}
        while min(seen.values()) < 60:
            one, other = some_plain_setting(dice), some_plain_setting(dice)
            if dice.random() < 0.8:
                place = dice.randrange(9)
                other = one[:place] + (other[place],) + one[place + 1:]
            most = dice.randint(1, 4)
            wanted = slow_alike(one, other, most, 120)
            if wanted is not None:
                self.tells(one, other, most, wanted)
                seen[wanted[0]] += 1

    def test_just_few_enough_pairs(self):
        setting, most = JUST_FEW
        told = alike(setting, setting, most)
        self.assertEqual((told[0], len(told[1])), ("alike", 2000))
        self.assertIs(shows_alike(setting, setting, most, told), True)

    def test_too_many_pairs(self):
        setting, most = JUST_MANY
        self.refused(setting, setting, most)
        many = (3, 4, 4, 3, 3, "oldest", True, None, None)
        self.refused(many, many, 9)

    def test_too_many_pairs_whatever_would_be_found(self):
        # The one has one state only, and they differ at once.
        setting, most = JUST_MANY
        other = (3, 3, 1, 1, 1, "oldest", False, None, None)
        self.refused(setting, other, most)
        self.refused(other, setting, most)
        self.assertEqual(alike(setting, other, 2), ("apart", (2,)))

    def test_pairs_are_counted_not_states(self):
        # Each setting has fewer than 2,000 states.
        one = (1, 3, 2, 2, 3, "oldest", False, 1, None)
        other = (1, 3, 2, 2, 2, "oldest", False, 1, None)
        for setting in (one, other):
            self.assertTrue(slow_reach(setting, slow_first(setting), 4, 1900) is not None)
        self.assertTrue(slow_pairs(one, other, 4, 2000) is None)
        self.refused(one, other, 4)

    def refused(self, one, other, most):
        with self.assertRaises(TooMany) as caught:
            alike(one, other, most)
        self.assertEqual(caught.exception.limit, 2000)

    def test_wrong_arguments(self):
        refuse_in_order(self, alike, (SETTING_KIND, SETTING_KIND, MOST_KIND))
        refuse_in_order(self, shows_alike, (SETTING_KIND, SETTING_KIND, MOST_KIND, ANY_KIND))
        # Each of the two settings is looked at before most is.
        for call in (lambda *values: alike(*values), lambda *values: shows_alike(*values, None)):
            for one, other in ((list(ONCE), ONCE), (ONCE, list(ONCE))):
                with self.assertRaises(NoSetting):
                    call(one, other, 0)
        with self.assertRaises(NoMost):
            alike(JUST_MANY[0], JUST_MANY[0], 10)
        with self.assertRaises(NoSetting):
            alike(JUST_MANY[0], list(JUST_MANY[0]), 4)

    def test_calls(self):
        names = ("one", "other", "most")
        for values in (ALIKE[5], APART[0][:3]):
            told = check_calls(self, alike, names, values)
            self.assertIs(check_calls(self, shows_alike, names + ("thing",), values + (told,)), True)
            thing = ["alike", [[list(pair) for pair in told[1]], {1: [2]}]] if told[0] == "alike" else ("apart", [[2]])
            self.assertIs(check_calls(self, shows_alike, names + ("thing",), values + (thing,)), False)

    def test_they_are_defined_in_their_file(self):
        for call in (alike, shows_alike):
            self.assertEqual(call.__module__, "comesback.alike")
            self.assertIs(getattr(alike_file, call.__name__), call)


class ShowsPairs(unittest.TestCase):
    @classmethod
    def setUpClass(cls):
        cls.cases = [(case, alike(*case)[1]) for case in ALIKE]

    def pairs(self, wanted, case, pairs):
        told = shows_alike(*case, ("alike", pairs))
        self.assertIs(told, wanted, (case, str(pairs)[:300]))

    def test_in_another_order(self):
        dice = random.Random(72)
        for case, pairs in self.cases:
            self.pairs(True, case, pairs)
            self.pairs(True, case, pairs[::-1])
            for _ in range(3):
                self.pairs(True, case, tuple(dice.sample(pairs, len(pairs))))

    def test_one_left_out(self):
        for case, pairs in self.cases:
            for place in range(len(pairs)):
                self.pairs(False, case, pairs[:place] + pairs[place + 1:])
            self.pairs(False, case, ())

    def test_one_twice(self):
        for case, pairs in self.cases:
            for pair in pairs:
                self.pairs(False, case, pairs + (pair,))
                self.pairs(False, case, (pair,) + pairs)

    def test_further_pairs(self):
        dice = random.Random(73)
        seen = {True: 0, False: 0}
        for (one, other, most), pairs in self.cases:
            states = [sorted({pair[place] for pair in pairs}) for place in (0, 1)]
            further = [(first, second) for first in states[0] for second in states[1]]
            for pair in dice.sample(further, min(len(further), 40)):
                told = [(slow_told(one, pair[0], fresh), slow_told(other, pair[1], fresh)) for fresh in range(most + 1)]
                wanted = pair not in pairs and all(
                    first[1] == second[1] and (first[6], second[6]) in pairs + (pair,) for first, second in told)
                seen[wanted] += 1
                self.pairs(wanted, (one, other, most), pairs + (pair,))
        self.assertGreater(seen[True], 3, seen)
        self.assertGreater(seen[False], 100, seen)

    def test_states_that_no_row_leads_to(self):
        # Of five who ask again one is answered, as of two; three are lost, or four.
        case = ((1, 1, 1, 2, 1, "oldest", False, None, None),) * 2 + (2,)
        pairs = alike(*case)[1]
        five, three, dead = ((0, (), ((many,),), 0, 0) for many in (5, 3, 0))
        self.pairs(True, case, pairs + ((five, five),))
        self.pairs(True, case, pairs + ((five, three),))
        self.pairs(False, case, pairs + ((five, dead),))
        self.pairs(True, case, ((three, five), (five, three)) + pairs)

    def test_a_pair_that_differs(self):
        # All that they lead to is there, but the one answers and the other does not.
        setting = (1, 1, 1, 1, 1, "oldest", False, None, (3, 1))
        case = (setting, setting, 2)
        first, shut = (0, (), ((),), 0, 0), (0, (), ((),), 0, 1)
        self.pairs(True, case, ((first, first),))
        self.pairs(True, case, ((first, first), (shut, shut)))
        self.pairs(False, case, ((first, first), (shut, first)))
        self.pairs(False, case, ((first, first), (first, shut)))

    def test_settings_that_are_apart(self):
        for one, other, most, _ in APART_BY_HAND + APART[:1]:
            pairs = tuple(slow_pairs(one, other, most))
            self.pairs(False, (one, other, most), pairs)

    def test_fewer_fresh_asks(self):
        # Differences above most do not matter.
        for one, other, most, row in APART_BY_HAND[:3]:
            pairs = alike(one, other, 1)[1]
            self.pairs(True, (one, other, 1), pairs)
            self.pairs(False, (one, other, 2), pairs)

    def test_with_another_most(self):
        for (one, other, most), pairs in self.cases:
            for others in range(1, 10):
                wanted = all(slow_told(one, first, fresh)[1] == slow_told(other, second, fresh)[1]
                             and (slow_next(one, first, fresh), slow_next(other, second, fresh)) in pairs
                             for first, second in pairs for fresh in range(others + 1))
                self.pairs(wanted, (one, other, others), pairs)

    def test_the_other_way_about(self):
        for (one, other, most), pairs in self.cases:
            turned = tuple((second, first) for first, second in pairs)
            self.pairs(True, (other, one, most), turned)
            wanted = set(turned) == set(pairs) or (
                {first for first, _ in pairs} == {second for _, second in pairs} and one[3:5] == other[3:5])
            if one == other:
                self.pairs(wanted, (one, other, most), turned)

    def test_states_of_the_other_setting_in_the_wrong_place(self):
        one, other, most = ALIKE[5]
        pairs = alike(one, other, most)[1]
        first, second = pairs[0]
        self.pairs(False, (one, other, most), tuple((right, left) for left, right in pairs))
        self.pairs(False, (one, other, most), pairs + ((second, first),))
        self.pairs(False, (one, other, most), pairs + ((first, first),))
        self.pairs(False, (one, other, most), pairs + ((second, second),))
        self.pairs(False, (other, one, most), pairs)

    def test_lists_for_tuples(self):
        for case, pairs in self.cases:
            first, second = pairs[-1]
            for pair in ([first, second], (list(first), second), (first, list(second)),
                         (first[:2] + (list(first[2]),) + first[3:], second),
                         (first, second[:1] + (list(second[1]),) + second[2:])):
                self.pairs(False, case, pairs[:-1] + (pair,))
                self.pairs(False, case, pairs + (pair,))
            self.pairs(False, case, list(pairs))
            self.pairs(False, case, dict(pairs))

    def test_bools_for_numbers(self):
        first = (0, (), ((),), 0, 0)
        for other in ((False,) + first[1:], first[:3] + (False, 0), first[:4] + (False,)):
            self.assertEqual(first, other)
            self.pairs(False, (ONCE, ONCE, 3), ((other, first),))
            self.pairs(False, (ONCE, ONCE, 3), ((first, other),))
            self.pairs(False, (ONCE, ONCE, 3), ((first, first), (first, other)))

    def test_pairs_of_other_forms(self):
        for case, pairs in self.cases:
            first, second = pairs[-1]
            for pair in ((first,), (first, second, 0), (first, second, first), first, (), None, True, 0, "",
                         (None, second), (first, None), ({}, second), (first, {}), (first[:4], second),
                         (first, second + (0,)), ((first, second),)):
                self.pairs(False, case, pairs[:-1] + (pair,))
                self.pairs(False, case, pairs + (pair,))

    def test_the_whole_of_other_forms(self):
        for case, pairs in self.cases:
            for thing in (["alike", pairs], ("alike", pairs, ()), ("alike",), pairs, ("Alike", pairs),
                          ("apart", pairs), (True, pairs), (None, pairs), (("alike",), pairs), (["alike"], pairs),
                          ("alike", None), ("alike", "alike"), (pairs, "alike"), "alike", ("alike ", pairs),
                          ("alike", (pairs,)), ("alike", True)):
                self.assertIs(shows_alike(*case, thing), False)

    def test_more_than_2000_pairs(self):
        setting, most = JUST_MANY
        states = list(slow_reach(setting, slow_first(setting), most, 2500))
        pairs = tuple((state, state) for state in states)
        self.assertEqual(len(pairs), 2001)
        self.pairs(True, (setting, setting, most), pairs)
        self.pairs(False, (setting, setting, most), pairs[1:])
        self.pairs(False, (setting, setting, most), pairs[:-1])


class ShowsApart(unittest.TestCase):
    def row(self, wanted, case, row):
        told = shows_alike(*case, ("apart", row))
        self.assertIs(told, wanted, (case, str(row)[:300]))

    def cases(self):
        for one, other, most, row in APART_BY_HAND + APART:
            yield (one, other, most), row

    def differs(self, case, row):
        """Whether the last beat of the row tells different numbers."""
        one, other, _ = case
        told = [slow_told(setting, slow_run(setting, slow_first(setting), row[:-1]), row[-1])[1]
                for setting in (one, other)]
        return told[0] != told[1]

    def test_what_alike_tells(self):
        for case, row in self.cases():
            self.row(True, case, row)
            self.row(True, (case[1], case[0], case[2]), row)

    def test_without_the_last_number(self):
        for case, row in self.cases():
            for end in range(1, len(row)):
                self.row(False, case, row[:end])

    def test_an_empty_row(self):
        for case, _ in self.cases():
            self.row(False, case, ())

    def test_longer_rows(self):
        for case, row in self.cases():
            self.row(True, case, (0,) * 3 + row)
            self.row(True, case, (0,) * 300 + row)
            self.row(True, case, (1,) * 2000 + (0,) * 60 + row)

    def test_with_more_behind(self):
        # It is the last beat that counts, not any.
        seen = {True: 0, False: 0}
        dice = random.Random(74)
        for case, row in self.cases():
            for many in (1, 2, 5, 60):
                for fresh in range(case[2] + 1):
                    more = row + (fresh,) * many
                    wanted = self.differs(case, more)
                    seen[wanted] += 1
                    self.row(wanted, case, more)
            for _ in range(20):
                more = tuple(dice.randint(0, case[2]) for _ in range(dice.randint(1, 9)))
                wanted = self.differs(case, more)
                seen[wanted] += 1
                self.row(wanted, case, more)
        self.assertGreater(min(seen.values()), 80, seen)

    def test_numbers_above_most(self):
        for case, row in self.cases():
            one, other, most = case
            for wrong in (most + 1, 10, 999, -1, True, False, None, "1", (1,), [1], {}, 10 ** 12 - 1):
                self.row(False, case, (wrong, 0, 0, 0, 0) + row)
                self.row(False, case, row[:-1] + (wrong,))
                self.row(False, case, (wrong,))
            for others in range(1, 10):
                self.row(max(row) <= others, (one, other, others), row)

    def test_bools_for_numbers(self):
        case, row = (APART_BY_HAND[2][:3], APART_BY_HAND[2][3])
        self.assertEqual(row, (2, 0))
        self.row(False, case, (2, False))
        case, row = (APART_BY_HAND[8][:3], APART_BY_HAND[8][3])
        self.assertEqual(row, (2, 1))
        self.row(False, case, (2, True))

    def test_settings_that_are_alike(self):
        dice = random.Random(75)
        for case in ALIKE:
            for _ in range(20):
                self.row(False, case, tuple(dice.randint(0, case[2]) for _ in range(dice.randint(1, 9))))

    def test_the_whole_of_other_forms(self):
        for case, row in self.cases():
            for thing in (["apart", row], ("apart", list(row)), ("apart", row, 0), ("apart",), ("apart",) + row, row,
                          ("Apart", row), ("alike", row), (True, row), (None, row), (("apart",), row),
                          (["apart"], row), ("apart", None), ("apart", True), ("apart", row[0]), ("apart", str(row)),
                          ("apart", (row,)), ("apart", {2: 0}), (row, "apart"), "apart"):
                self.assertIs(shows_alike(*case, thing), False, (case, thing))

    def test_where_there_are_too_many_pairs(self):
        setting, most = JUST_MANY
        other = (3, 3, 1, 1, 1, "oldest", False, None, None)
        self.row(True, (setting, other, most), (2,))
        self.row(True, (setting, other, 9), (0, 0, 9))
        self.row(False, (setting, other, most), (1,))

    def test_values_that_are_nothing_of_the_kind(self):
        for case in (ALIKE[0], ALIKE[5], APART[0][:3]):
            for value in strange_values() + [TooMany(3), NoMost, alike]:
                for thing in (value, (value,), (value, value), ("alike", value), ("apart", value), ("alike", (value,)),
                              ("apart", (value,)), ("alike", ((value, value),)), ("alike", ((value,),)), (value, ()),
                              ("apart", (2, (value,))), (value, (2, 0))):
                    self.assertIs(shows_alike(*case, thing), False, (case, str(thing)[:100]))


if __name__ == "__main__":
    unittest.main()
