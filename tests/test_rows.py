import random
import unittest

from comesback import rows as rows_file
from comesback.beats import totals
from comesback.calm import calm, stays
from comesback.errors import NoRow, TooMany
from comesback.rows import rows, shows_rows
from comesback.settings import first_state

from tests.model import kinds_of, some_plain_setting, some_state, strange_values
from tests.refusals import (
    ANY_KIND, MOST_KIND, SETTING_KIND, STEADY_KIND, check_calls, refuse_in_order,
)
from tests.slow import (
    slow_calm, slow_down, slow_first, slow_next, slow_ranks_hold, slow_reach, slow_rows, slow_run,
    slow_stays,
)

EXAMPLE = (2, 4, 1, 2, 1, "oldest", True, None, None)

# Each with a setting, a steady inflow, most and what rows tells.
DOWNS = (
    (EXAMPLE, 1, 3, ("down", (3,), 0, ((1, (), ((1,),), 0, 0),))),
    ((1, 3, 2, 2, 1, "newest", False, None, None), 2, 2,
     ("down", (2, 1), 2, ((0, (), ((2,),), 0, 0), (0, ((0, 1), (0, 1)), ((1,),), 0, 0)))),
    ((1, 2, 1, 3, 1, "newest", False, None, None), 2, 3,
     ("down", (3, 3), 1, ((0, (), ((2, 2),), 0, 0),))),
    ((1, 2, 2, 2, 2, "newest", False, None, None), 2, 2,
     ("down", (2, 1, 0), 4, ((0, (), ((1,), (2,)), 0, 0), (0, ((0, 1),), ((2,), (1,)), 0, 0)))),
    ((1, 2, 1, 3, 2, "newest", False, None, None), 2, 3,
     ("down", (3, 0, 3), 7, ((0, (), ((2, 2), (1, 2)), 0, 0), (0, (), ((1, 2), (2, 2)), 0, 0)))),
    ((1, 4, 3, 1, 1, "newest", True, None, (1, 2)), 1, 2,
     ("down", (2, 2, 2), 2, ((1, (), ((),), 0, 0),))),
    ((2, 3, 1, 3, 1, "newest", False, 2, (1, 1)), 2, 3,
     ("down", (3, 0, 2, 1), 1, ((0, (), ((1, 0),), 2, 1), (0, (), ((0, 2),), 1, 0)))),
    ((1, 3, 3, 2, 2, "newest", False, None, None), 2, 2,
     ("down", (2, 1, 1, 0), 6,
      ((0, (), ((2,), (2,)), 0, 0), (0, ((0, 1), (0, 1)), ((2,), (1,)), 0, 0),
       (0, ((0, 2), (0, 2)), ((1,), (2,)), 0, 0)))),
    ((1, 5, 2, 2, 1, "newest", True, 3, (3, 1)), 2, 4,
     ("down", (3, 4, 0, 2, 1), 1, ((4, (), ((2,),), 1, 0),))),
    ((1, 2, 1, 2, 3, "newest", False, None, (2, 2)), 2, 2,
     ("down", (2, 0, 0, 2, 0, 2, 0), 4,
      ((0, (), ((2,), (2,), (2,)), 0, 0), (0, (), ((2,), (2,), (2,)), 0, 2),
       (0, (), ((2,), (2,), (2,)), 0, 1)))),
)

ALWAYS = (
    (EXAMPLE, 1, 2, ("always", (((0, (), ((0,),), 0, 0), 0),))),
    ((1, 1, 1, 2, 1, "oldest", True, None, None), 2, 4,
     ("always", (((0, (), ((0,),), 0, 0), 2), ((0, (), ((1,),), 0, 0), 1), ((0, (), ((2,),), 0, 0), 0),
                 ((0, (), ((3,),), 0, 0), 1), ((0, (), ((4,),), 0, 0), 1)))),
    ((1, 3, 1, 1, 1, "newest", True, None, (1, 1)), 1, 2,
     ("always", (((0, (), ((),), 0, 0), 0), ((1, (), ((),), 0, 1), 1)))),
    ((2, 3, 1, 1, 1, "oldest", True, None, (1, 1)), 1, 4,
     ("always", (((0, (), ((),), 0, 0), 0), ((1, (), ((),), 0, 1), 1)))),
)
# A setting with a greater inflow, whose calm round has two states some beats away.
TURNING = ((1, 2, 2, 2, 1, "newest", False, None, None), 3, 4)
# 2,000 states, of which 1 with 4 asks in each beat stays down, and with 2 none.
JUST_FEW = ((3, 5, 2, 2, 3, "newest", False, None, (3, 2)), 6)
# 2,001 states, of which 1,992 stay down with 1 ask in each beat, and with 2 none.
JUST_MANY = ((1, 3, 2, 2, 3, "oldest", False, 3, (1, 2)), 4)


class Rows(unittest.TestCase):
    def tells(self, setting, steady, most, wanted):
        told = rows(setting, steady, most)
        self.assertEqual(told, wanted)
        self.assertEqual(kinds_of(told), kinds_of(wanted))

    def test_down(self):
        for setting, steady, most, wanted in DOWNS:
            with self.subTest(setting=setting, steady=steady, most=most):
                self.tells(setting, steady, most, wanted)

    def test_what_stays_tells_of_the_state_behind_the_row(self):
        for setting, steady, most, told in DOWNS:
            behind = totals(setting, first_state(setting), told[1])[6]
            self.assertEqual(stays(setting, steady, behind), ("down",) + told[2:])

    def test_the_first_of_the_shortest_rows(self):
        for setting, steady, most, told in DOWNS:
            found = []
            level = [((), slow_first(setting))]
            while not found:
                found = [row for row, state in level if slow_down(setting, steady, state)]
                # One row to each state will do, if it is the first one of its length.
                longer = {}
                for row, state in sorted(level):
                    for fresh in range(most + 1):
                        longer.setdefault(slow_next(setting, state, fresh), row + (fresh,))
                level = [(row, state) for state, row in longer.items()]
            self.assertEqual(min(found), told[1], (setting, steady, most))

    def test_always(self):
        for setting, steady, most, wanted in ALWAYS:
            with self.subTest(setting=setting, steady=steady, most=most):
                self.tells(setting, steady, most, wanted)

    def test_as_the_slow_model_tells(self):
        dice = random.Random(30)
        seen = {"always": 0, "down": 0, "several": 0}
        for _ in range(900):
            setting = some_plain_setting(dice)
            steady = dice.choice((1, 1, 2, 2, 3, 5))
            most = min(9, steady + dice.choice((0, 1, 2, 4)))
            if dice.random() < 0.5:
                # Here services often get down in several beats alone.
                setting = (1, dice.randint(2, 3), dice.randint(1, 2), 2, dice.randint(1, 2)) + setting[5:]
                steady, most = 2, dice.randint(2, 3)
            if slow_reach(setting, slow_first(setting), most, 250) is not None:
                told = rows(setting, steady, most)
                self.assertEqual(told, slow_rows(setting, steady, most), (setting, steady, most))
                self.assertIs(shows_rows(setting, steady, most, told), True)
                seen[told[0]] += 1
                seen["several"] += told[0] == "down" and len(set(told[1])) > 1
        self.assertGreater(min(seen.values()), 15, seen)

    def test_too_many_where_the_slow_model_finds_more_than_2000(self):
        dice = random.Random(35)
        seen = 0
        while seen < 8:
            setting, most = some_plain_setting(dice), dice.randint(2, 9)
            if slow_reach(setting, slow_first(setting), most, 2000) is None:
                seen += 1
                self.assertRaises(TooMany, rows, setting, dice.randint(1, most), most)

    def test_the_empty_row_never_stays_down(self):
        # The first state comes back whatever comes: its own round is the calm one.
        dice = random.Random(31)
        for _ in range(300):
            setting, steady = some_plain_setting(dice), dice.randint(1, 9)
            self.assertEqual(stays(setting, steady, first_state(setting))[0], "back")

    def test_2000_states_are_not_too_many(self):
        setting, most = JUST_FEW
        found = slow_reach(setting, slow_first(setting), most, 2500)
        self.assertEqual(len(found), 2000)
        told = rows(setting, 2, most)
        self.assertEqual(len(told[1]), 2000)
        self.assertEqual(told, ("always", tuple(sorted(
            (state, slow_stays(setting, 2, state)[1]) for state in found))))
        self.assertIs(shows_rows(setting, 2, most, told), True)

    def test_the_only_one_of_2000_states_that_stays_down(self):
        setting, most = JUST_FEW
        found = slow_reach(setting, slow_first(setting), most, 2500)
        downs = [state for state in found if slow_down(setting, 4, state)]
        self.assertEqual(len(downs), 1)
        self.tells(setting, 4, most, ("down", found[downs[0]]) + slow_stays(setting, 4, downs[0])[1:])

    def test_2001_states_are_too_many_whatever_it_would_find(self):
        setting, most = JUST_MANY
        self.assertEqual(len(slow_reach(setting, slow_first(setting), most, 2500)), 2001)
        for steady in (1, 2, 4):
            with self.assertRaises(TooMany) as caught:
                rows(setting, steady, most)
            self.assertEqual(kinds_of(caught.exception.limit), kinds_of(2000))
        # Two beats would have shown it.
        self.assertTrue(slow_down(setting, 1, slow_run(setting, slow_first(setting), (4, 4))))

    def test_very_many_states(self):
        for setting in ((3, 4, 4, 3, 3, "oldest", True, None, None), (1, 5, 4, 3, 3, "newest", False, 4, (3, 3))):
            with self.assertRaises(TooMany) as caught:
                rows(setting, 1, 9)
            self.assertEqual(caught.exception.limit, 2000)

    def test_wrong_arguments(self):
        refuse_in_order(self, rows, (SETTING_KIND, STEADY_KIND, MOST_KIND))

    def test_most_ends_at_steady_and_at_9(self):
        setting = (1, 1, 1, 1, 1, "oldest", True, None, None)
        for steady in range(1, 10):
            for most in range(-1, 12):
                if steady <= most <= 9:
                    self.assertEqual(rows(setting, steady, most)[0], "always")
                    self.assertIs(shows_rows(setting, steady, most, None), False)
                else:
                    error = MOST_KIND[1][0]
                    self.assertRaises(error, rows, setting, steady, most)
                    self.assertRaises(error, shows_rows, setting, steady, most, None)

    def test_no_most_comes_ahead_of_too_many(self):
        with self.assertRaises(MOST_KIND[1][0]):
            rows((3, 4, 4, 3, 3, "oldest", True, None, None), 9, 8)

    def test_calls(self):
        names = ("setting", "steady", "most")
        for setting, steady, most, wanted in DOWNS[:3]:
            self.assertEqual(check_calls(self, rows, names, (setting, steady, most)), wanted)
        self.assertEqual(check_calls(self, rows, names, ALWAYS[1][:3]), ALWAYS[1][3])

    def test_defined_in_its_file(self):
        for call in (rows, shows_rows):
            self.assertEqual(call.__module__, rows_file.__name__)


class Shows(unittest.TestCase):
    """What all tests of shows_rows need."""

    def shown(self, wanted, *arguments):
        self.assertIs(shows_rows(*arguments), wanted, arguments)


class ShowsAlways(Shows):
    CASES = tuple(case[:3] for case in ALWAYS) + (TURNING,) + (
        ((1, 5, 1, 1, 1, "oldest", True, None, (1, 1)), 1, 3),
        ((1, 3, 3, 1, 1, "newest", True, None, (3, 3)), 2, 3),
        ((3, 4, 3, 2, 1, "newest", False, 3, None), 3, 4),
        ((2, 3, 3, 3, 1, "newest", False, 2, None), 2, 3),
        ((1, 1, 1, 2, 1, "oldest", True, 0, None), 3, 5),
    )

    def cases(self):
        for setting, steady, most in self.CASES:
            word, pairs = rows(setting, steady, most)
            self.assertEqual(word, "always")
            yield (setting, steady, most), pairs

    def ranks(self, wanted, case, pairs):
        self.shown(wanted, *case, ("always", tuple(pairs)))

    def test_what_rows_tells(self):
        for case, pairs in self.cases():
            self.ranks(True, case, pairs)

    def test_in_any_order(self):
        for case, pairs in self.cases():
            self.ranks(True, case, pairs[::-1])
            self.ranks(True, case, random.Random(32).sample(pairs, len(pairs)))

    def test_other_ranks_that_fall(self):
        for case, pairs in self.cases():
            self.ranks(True, case, [(state, rank * 3) for state, rank in pairs])
            self.ranks(True, case, [(state, rank * (10 ** 11 - 7)) for state, rank in pairs])
            self.ranks(True, case, [(state, rank and rank + 5) for state, rank in pairs])

    def test_states_of_the_calm_round_may_have_ranks_above_0(self):
        setting, steady, most = TURNING
        pairs = rows(setting, steady, most)[1]
        one, other = calm(setting, steady)[1]
        for first, second, wanted in ((0, 0, True), (0, 1, True), (1, 0, True), (1, 1, False), (1, 2, False)):
            ranks = {state: rank + 9 for state, rank in pairs}
            ranks.update({one: first, other: second})
            self.ranks(wanted, TURNING, ranks.items())

    def test_further_states(self):
        tried = 0
        for case, pairs in self.cases():
            setting, steady, most = case
            dice = random.Random(33)
            known = dict(pairs)
            states = [some_state(dice, setting) for _ in range(40)]
            crowd = (0, (), ((7,) * (setting[3] - 1),) * setting[4], 0, 0)
            for state in states + [crowd]:
                if state not in known:
                    more = {one: slow_stays(setting, steady, one) for one in slow_reach(setting, state, most)}
                    if all(told[0] == "back" for told in more.values()):
                        known.update({one: told[1] for one, told in more.items()})
                        self.ranks(True, case, known.items())
                        some = [(one, known[one]) for one in more]
                        self.ranks(slow_ranks_hold(*case, some), case, some)
            if len(known) > len(pairs):
                tried += 1
                further = next(one for one in known if one not in dict(pairs))
                self.ranks(True, case, known.items())
                self.ranks(False, case, [(one, 0 if one == further else rank) for one, rank in known.items()])
        self.assertGreater(tried, 5)

    def test_further_states_that_are_not_closed(self):
        case = (EXAMPLE, 1, 2)
        first = first_state(EXAMPLE)
        self.ranks(True, case, [(first, 0)])
        # Two dead ones: with no fresh ask they are gone, but with one or two they are not.
        self.ranks(False, case, [(first, 0), ((2, (), ((0,),), 0, 0), 3)])
        self.ranks(False, case, [(first, 0), ((0, (), ((1,),), 0, 0), 1)])

    def test_states_that_stay_down(self):
        for setting, steady, most, told in DOWNS[:6]:
            found = slow_reach(setting, slow_first(setting), most)
            ranks = {state: slow_stays(setting, steady, state)[1] for state in found}
            self.ranks(False, (setting, steady, most), ranks.items())
            ranks = {state: rank + 99 * slow_down(setting, steady, state) for state, rank in ranks.items()}
            self.ranks(False, (setting, steady, most), ranks.items())

    def test_without_any_of_them(self):
        for case, pairs in self.cases():
            for place in range(len(pairs)):
                self.ranks(False, case, pairs[:place] + pairs[place + 1:])
            self.ranks(False, case, ())

    def test_a_rank_of_0_stands_for_the_calm_round_alone(self):
        for case, pairs in self.cases():
            for place, (state, rank) in enumerate(pairs):
                self.ranks(rank == 0, case, pairs[:place] + ((state, 0),) + pairs[place + 1:])

    def test_ranks_that_do_not_fall(self):
        for case, pairs in self.cases():
            setting, steady, _ = case
            ranks = dict(pairs)
            for state, rank in pairs:
                behind = ranks[slow_next(setting, state, steady)]
                for other in {behind - 1, behind, rank - 1, rank + 1, 10 ** 12 - 1}:
                    if other > 0 and other != rank:
                        changed = [(one, other if one == state else old) for one, old in pairs]
                        wanted = slow_ranks_hold(*case, changed)
                        self.ranks(wanted, case, changed)
                        if other <= behind:
                            self.assertFalse(wanted)

    def test_ranks_of_other_kinds(self):
        for case, pairs in self.cases():
            for place, (state, rank) in enumerate(pairs):
                for other in (rank == 1, True, False, None, -1, -rank - 1, str(rank), (rank,), [rank], {}, {1: 2}):
                    self.ranks(False, case, pairs[:place] + ((state, other),) + pairs[place + 1:])

    def test_pairs_of_other_forms(self):
        for case, pairs in self.cases():
            state, rank = pairs[-1]
            for pair in ([state, rank], (state,), (state, rank, 0), (rank, state), state, rank, (), None, True,
                         (list(state), rank), (state[:4], rank), (state + (0,), rank),
                         ((False,) + state[1:], rank), (state[:4] + (False,), rank),
                         ((state[0], list(state[1])) + state[2:], rank),
                         (state[:2] + (list(state[2]),) + state[3:], rank), (None, rank), ({}, rank), ([], rank)):
                self.ranks(False, case, pairs[:-1] + (pair,))
                self.ranks(False, case, pairs + (pair,))

    def test_a_state_twice(self):
        for case, pairs in self.cases():
            for state, rank in pairs:
                self.ranks(False, case, pairs + ((state, rank),))
                self.ranks(False, case, ((state, rank + 1),) + pairs)

    def test_states_of_another_setting(self):
        for case, pairs in self.cases():
            self.ranks(False, case, pairs + ((((0, (), ((0, 0), (0, 0), (0, 0)), 4, 3)), 1),))
        setting, steady, most = ALWAYS[0][:3]
        self.shown(False, (2, 4, 1, 2, 2, "oldest", True, None, None), steady, most, ALWAYS[0][3])

    def test_the_whole_of_other_forms(self):
        for case, pairs in self.cases():
            for thing in (["always", pairs], ("always", list(pairs)), ("always", pairs, ()), ("always",), pairs,
                          ("Always", pairs), ("down", pairs), (True, pairs), (None, pairs), (("always",), pairs),
                          (["always"], pairs), ("always", dict(pairs)), ("always", None), ("always", "always"),
                          (pairs, "always"), "always", ("always ", pairs), ("always", (pairs,))):
                self.shown(False, *case, thing)

    def test_with_another_most_or_inflow(self):
        setting, steady, most = self.CASES[6]
        pairs = rows(setting, steady, most)[1]
        for other in range(steady, 10):
            wanted = slow_ranks_hold(setting, steady, other, pairs)
            self.assertEqual(wanted, other <= most)
            self.ranks(wanted, (setting, steady, other), pairs)
        for other in range(1, most + 1):
            self.ranks(slow_ranks_hold(setting, other, most, pairs), (setting, other, most), pairs)

    def test_more_than_2000_states(self):
        setting, most = JUST_MANY
        found = slow_reach(setting, slow_first(setting), most, 2500)
        pairs = tuple((state, slow_stays(setting, 2, state)[1]) for state in found)
        self.assertEqual(len(pairs), 2001)
        self.ranks(True, (setting, 2, most), pairs)
        self.ranks(False, (setting, 2, most), pairs[1:])
        self.ranks(False, (setting, 2, most), pairs[:-1])
        self.ranks(False, (setting, 1, most), pairs)


class ShowsDown(Shows):
    def cases(self):
        for setting, steady, most, (_, row, beats, states) in DOWNS:
            yield (setting, steady, most), row, beats, states

    def round(self, wanted, case, *parts):
        self.shown(wanted, *case, ("down",) + parts)

    def test_what_rows_tells(self):
        for case, row, beats, states in self.cases():
            self.round(True, case, row, beats, states)

    def test_more_beats_with_the_round_turned(self):
        for case, row, beats, states in self.cases():
            for more in range(2 * len(states) + 1):
                turn = more % len(states)
                self.round(True, case, row, beats + more, states[turn:] + states[:turn])
                self.round(turn == 0, case, row, beats + more, states)

    def test_fewer_beats(self):
        for case, row, beats, states in self.cases():
            for fewer in range(1, beats + 1):
                for turn in range(len(states)):
                    self.round(False, case, row, beats - fewer, states[turn:] + states[:turn])
            self.round(False, case, row, -1, states)

    def test_steady_beats_in_the_row(self):
        for case, row, beats, states in self.cases():
            steady = case[1]
            for some in range(beats + 1):
                self.round(True, case, row + (steady,) * some, beats - some, states)

    def test_the_round_more_than_once(self):
        for case, row, beats, states in self.cases():
            self.round(True, case, row, beats, states * 2)
            self.round(True, case, row, beats, states * 7)
            self.round(len(states) == 1, case, row, beats, states * 2 + states[:1])

    def test_parts_of_the_round(self):
        for case, row, beats, states in self.cases():
            for most in range(len(states)):
                self.round(False, case, row, beats, states[:most])
            if len(states) > 2:
                self.round(False, case, row, beats, states[:1] + states[:0:-1])

    def test_states_ahead_of_the_round(self):
        for case, row, beats, states in self.cases():
            setting, steady, _ = case
            behind = slow_run(setting, slow_first(setting), row)
            way = tuple(slow_run(setting, behind, (steady,) * some) for some in range(beats))
            if way:
                self.round(False, case, row, 0, way + states)
                self.round(False, case, row, 0, way)

    def test_longer_rows(self):
        for case, row, beats, states in self.cases():
            self.round(True, case, (0,) * 3 + row, beats, states)
            self.round(True, case, (0,) * 300 + row, beats, states)
            self.round(True, case, (1,) * 5000 + (0,) * 60 + row, beats, states)
            # The function run would refuse it.
            with self.assertRaises(NoRow):
                totals(case[0], first_state(case[0]), (0,) * 300 + row)

    def test_any_rows_as_the_slow_model_tells(self):
        dice = random.Random(34)
        seen = {True: 0, False: 0}
        for case, _, _, states in self.cases():
            setting, steady, most = case
            for _ in range(40):
                row = tuple(dice.randint(0, most) for _ in range(dice.randint(0, 12)))
                beats = dice.randint(0, 8)
                behind = slow_run(setting, slow_first(setting), row + (steady,) * beats)
                told = slow_stays(setting, steady, behind)
                wanted = told[0] == "down" and told[1] == 0
                given = told[2] if told[0] == "down" else states
                seen[wanted] += 1
                self.round(wanted, case, row, beats, given)
        self.assertGreater(min(seen.values()), 50)

    def test_other_rounds(self):
        for case, row, beats, states in self.cases():
            setting, steady, most = case
            others = {slow_stays(setting, steady, state)[2:] for state in slow_reach(setting, slow_first(setting), most)}
            for other in others:
                if other and not set(other[0]) & set(states):
                    self.round(False, case, row, beats, other[0])

    def test_10000_beats_and_10001(self):
        for case, row, beats, states in self.cases():
            for many, wanted in ((9999, True), (10000, True), (10001, False), (10002, False)):
                turn = (many - beats) % len(states)
                self.round(wanted, case, row, many, states[turn:] + states[:turn])
            self.round(False, case, row, 10 ** 12 - 1, states)

    def test_the_calm_round(self):
        for case, row, beats, states in self.cases():
            setting, steady, _ = case
            away, calm_states = slow_calm(setting, steady)
            self.round(False, case, (), away, calm_states)
            self.round(False, case, (steady,) * away, 0, calm_states)
            self.round(False, case, (), away, calm_states * 2)
            self.round(False, case, row, beats, calm_states)
        setting, steady, most = TURNING
        away, calm_states = slow_calm(setting, steady)
        self.assertEqual(len(calm_states), 2)
        for turn in (0, 1):
            self.round(False, TURNING, (), away + turn, calm_states[turn:] + calm_states[:turn])
        for case in ShowsAlways.CASES:
            away, calm_states = slow_calm(*case[:2])
            self.round(False, case, (), away, calm_states)

    def test_an_empty_round(self):
        for case, row, beats, _ in self.cases():
            self.round(False, case, row, beats, ())
            self.round(False, case, (), 0, ())

    def test_numbers_of_the_row(self):
        setting, steady, most, (_, row, beats, states) = DOWNS[0]
        for fresh in range(12):
            behind = slow_run(setting, slow_first(setting), (fresh,))
            told = slow_stays(setting, steady, behind)
            if told[0] == "down":
                for highest in range(1, 10):
                    self.round(fresh <= highest, (setting, steady, highest), (fresh,), *told[1:])
        for wrong in (True, False, None, -1, 10, "3", (3,), [3], {}, 10 ** 12 - 1):
            self.round(False, (setting, steady, most), (wrong,) + row, beats, states)
            self.round(False, (setting, steady, most), row + (wrong,), beats, states)

    def test_bools_for_numbers(self):
        # A row of 1 and 0 and a single beat, which True and False are equal to.
        setting, steady, most, (_, row, beats, states) = DOWNS[6]
        self.assertEqual((row, beats), ((3, 0, 2, 1), 1))
        self.round(True, (setting, steady, most), row, 1, states)
        self.round(False, (setting, steady, most), row, True, states)
        self.round(False, (setting, steady, most), (3, False, 2, 1), 1, states)
        self.round(False, (setting, steady, most), (3, 0, 2, True), 1, states)
        self.round(False, DOWNS[0][:3], (3,), False, DOWNS[0][3][3])
        state = DOWNS[0][3][3][0]
        self.assertEqual(state, (1, (), ((1,),), 0, 0))
        for other in ((True,) + state[1:], (1, (), ((True,),), 0, 0), state[:3] + (False, 0), state[:4] + (False,)):
            self.assertEqual(state, other)
            self.round(False, DOWNS[0][:3], (3,), 0, (other,))
            self.round(False, DOWNS[0][:3], (3,), 0, (state, other))

    def test_beats_of_other_kinds(self):
        for case, row, beats, states in self.cases():
            for wrong in (None, str(beats), (beats,), [beats], {}, -1, bool(beats)):
                self.round(False, case, row, wrong, states)

    def test_lists_for_tuples(self):
        for case, row, beats, states in self.cases():
            for parts in ((list(row), beats, states), (row, beats, list(states)),
                          (row, beats, tuple(list(state) for state in states)),
                          (row, beats, tuple((state[0], list(state[1])) + state[2:] for state in states)),
                          (row, beats, tuple(state[:2] + (list(state[2]),) + state[3:] for state in states))):
                self.round(False, case, *parts)
            self.shown(False, *case, ["down", row, beats, states])

    def test_the_whole_of_other_forms(self):
        for case, row, beats, states in self.cases():
            for thing in (("down", row, beats), ("down", row, beats, states, ()), (row, beats, states),
                          ("always", row, beats, states), ("Down", row, beats, states), ("down",), "down",
                          (None, row, beats, states), (True, row, beats, states), ("down", beats, row, states),
                          ("down", row, states, beats), (["down"], row, beats, states), ("down", None, beats, states),
                          ("down", row, beats, None), ("down", row, beats, states[0]), ("down", row, beats, True),
                          ("down", row, beats, (None,)), ("down", row, beats, states + (None,)),
                          ("down", row, beats, states + ({},)), ("down", row, beats, "down")):
                self.shown(False, *case, thing)

    def test_with_another_most(self):
        for case, row, beats, states in self.cases():
            setting, steady, _ = case
            for most in range(steady, 10):
                self.round(max(row) <= most, (setting, steady, most), row, beats, states)

    def test_where_there_are_too_many_states(self):
        setting, most = JUST_MANY
        told = slow_stays(setting, 1, slow_run(setting, slow_first(setting), (4, 4)))
        self.round(True, (setting, 1, most), (4, 4), *told[1:])
        self.round(True, (setting, 1, 9), (4, 4), *told[1:])

    def test_states_of_another_setting(self):
        for case, row, beats, states in self.cases():
            self.round(False, case, row, beats, states + ((0, (), ((0, 0), (0, 0), (0, 0)), 4, 3),))


class ShowsAnything(Shows):
    CASES = (DOWNS[0][:3], ALWAYS[1][:3], TURNING)

    def things(self):
        for value in strange_values() + [TooMany(3), NoRow("no"), NoRow, rows]:
            yield value
            for thing in ((value, value), (value,) * 4, ("always", value), ("always", (value,)),
                          ("always", ((value, 0),)), ("always", ((value, value),)), ("down", value, 0, (value,)),
                          ("down", (), value, (value,)), ("down", (), 0, value), ("down", (), 0, (value,)),
                          ("down", (value,), 0, (value,)), (value, (), 0, ())):
                yield thing

    def test_values_that_are_nothing_of_the_kind(self):
        for case in self.CASES:
            for thing in self.things():
                self.shown(False, *case, thing)

    def test_wrong_arguments(self):
        refuse_in_order(self, shows_rows, (SETTING_KIND, STEADY_KIND, MOST_KIND, ANY_KIND))

    def test_calls(self):
        names = ("setting", "steady", "most", "thing")
        self.assertIs(check_calls(self, shows_rows, names, DOWNS[0]), True)
        self.assertIs(check_calls(self, shows_rows, names, ALWAYS[1]), True)
        for thing in (["always", [[[0], 1]]], {"down": [1, {2: 3}]}, ("always", [(1, [2])]), ("down", [], 0, [{}])):
            self.assertIs(check_calls(self, shows_rows, names, DOWNS[0][:3] + (thing,)), False)


if __name__ == "__main__":
    unittest.main()
