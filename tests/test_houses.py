import copy
import random
import unittest

from comesback import houses as houses_file
from comesback.beats import beat, run
from comesback.errors import NoFresh, NoGate, NoSetting, NothingDone, ServeError, TooMany
from comesback.houses import House, Noted, NotedShielded, Shielded
from comesback.settings import first_state

from tests.model import deep, kinds_of, setting_with, slow_beat, some_plain_setting, some_state, strange_values
from tests.refusals import NO_SETTINGS
from tests.slow import slow_first

EXAMPLE = (2, 4, 1, 2, 1, "oldest", True, None, None)
ONCE = (1, 1, 1, 1, 1, "oldest", False, None, None)
WAITING = (1, 5, 4, 3, 2, "oldest", False, 3, (3, 2))
NO_FRESH = (True, False, None, -1, 1000, 1001, 10 ** 12 - 1, -10 ** 12 + 1, "", "1", (), (1,), [], [1], {}, {1: 1},
            deep(40, list), deep(40, tuple))
PLAIN_KINDS = (House, Noted)
GATED_KINDS = (Shielded, NotedShielded)
KINDS = PLAIN_KINDS + GATED_KINDS
PROPERTIES = ("setting", "state", "beats", "answered", "lost")


def made(kind, setting=EXAMPLE, gate=2):
    return kind(setting, gate) if kind in GATED_KINDS else kind(setting)


def seen_of(house):
    """All that can be seen of a house."""
    names = PROPERTIES
    if isinstance(house, Shielded):
        names += ("gate", "turned")
    if isinstance(house, Noted):
        names += ("told",)
    return [kinds_of(getattr(house, name)) for name in names] + [len(house), repr(house)]


class SlowHouse:
    """A house by the slow model: all beats that were not taken back, done anew for each look."""

    def __init__(self, setting, gate=None):
        self.setting, self.gate, self.row = setting, gate, []

    def look(self):
        state = slow_first(self.setting)
        states, told = [state], []
        for fresh in self.row:
            line = slow_beat(self.setting, state, fresh if self.gate is None else min(fresh, self.gate))
            state = line[6]
            states.append(state)
            told.append(line[:6])
        return states, told

    def seen_as(self, house):
        states, told = self.look()
        state = states[-1]
        values = [self.setting, state, len(told), sum(line[1] for line in told), sum(line[5] for line in told)]
        if isinstance(house, Shielded):
            values += [self.gate, sum(fresh - min(fresh, self.gate) for fresh in self.row)]
        if isinstance(house, Noted):
            values += [tuple(told)]
        many = state[0] + len(state[1])
        text = f"{house.__class__.__name__}({many} in the queue, {len(told)} beats)"
        return [kinds_of(value) for value in values] + [many, text]


class Houses(unittest.TestCase):
    def each(self, *settings, gate=2):
        for kind in KINDS:
            for setting in settings or (EXAMPLE,):
                yield made(kind, setting, gate)

    def test_at_first(self):
        for house in self.each(EXAMPLE, ONCE, WAITING):
            self.assertEqual(kinds_of(house.state), kinds_of(first_state(house.setting)))
            self.assertEqual((house.beats, house.answered, house.lost, len(house)), (0, 0, 0, 0))
            self.assertEqual([type(house.beats), type(house.answered), type(house.lost)], [int, int, int])
            if isinstance(house, Shielded):
                self.assertEqual((house.gate, house.turned), (2, 0))
            if isinstance(house, Noted):
                self.assertEqual(kinds_of(house.told), kinds_of(()))

    def test_the_setting(self):
        for house in self.each(EXAMPLE, ONCE, WAITING):
            setting = house.setting
            house.run(3, 1, 0)
            self.assertEqual(kinds_of(house.setting), kinds_of(setting))
        self.assertEqual(House(WAITING).setting, WAITING)

    def test_beat_tells_what_the_function_tells(self):
        for house in self.each(EXAMPLE, WAITING, gate=999):
            state = first_state(house.setting)
            for fresh in (4, 1, 0, 7, 999, 0, 0, 2):
                wanted = beat(house.setting, state, fresh)
                state = wanted[6]
                self.assertEqual(kinds_of(house.beat(fresh)), kinds_of(wanted[:6]))
                self.assertEqual(kinds_of(house.state), kinds_of(state))

    def test_a_call_is_a_beat(self):
        for house in self.each(EXAMPLE, WAITING):
            other = made(type(house), house.setting)
            for fresh in (4, 1, 0, 7, 999, 0, 0, 2):
                self.assertEqual(kinds_of(house(fresh)), kinds_of(other.beat(fresh)))
                self.assertEqual(seen_of(house), seen_of(other))
        self.assertEqual(House(EXAMPLE)(fresh=4), (4, 2, 0, 0, 2, 0))

    def test_the_session_of_the_document(self):
        house = House(EXAMPLE)
        self.assertEqual(house.beat(4), (4, 2, 0, 0, 2, 0))
        self.assertEqual(house.state, (2, (), ((2,),), 0, 0))
        self.assertEqual((house.beats, house.answered, house.lost, len(house)), (1, 2, 0, 2))

    def test_answered_and_lost_in_all(self):
        house = House(ONCE)
        house.run(3, 0, 2, 1)
        # One of each beat with asks, and two and one that have no second try.
        self.assertEqual((house.beats, house.answered, house.lost), (4, 3, 3))
        house.undo()
        self.assertEqual((house.beats, house.answered, house.lost), (3, 2, 3))
        house.undo()
        self.assertEqual((house.beats, house.answered, house.lost), (2, 1, 2))

    def test_wrong_fresh_asks(self):
        for house in self.each():
            house.run(3, 1)
            before = seen_of(house)
            for wrong in NO_FRESH:
                for call in (house.beat, house, house.run):
                    with self.assertRaises(NoFresh) as caught:
                        call(wrong)
                    self.assertIs(type(caught.exception), NoFresh)
            self.assertEqual(seen_of(house), before)
            self.assertEqual(house.undo(), 1)

    def test_0_and_999_fresh_asks(self):
        for house in self.each():
            house.beat(0)
            house.beat(999)
            self.assertEqual(house.undo(), 999)
            self.assertEqual(house.undo(), 0)

    def test_run(self):
        for house in self.each(EXAMPLE, WAITING):
            other = made(type(house), house.setting)
            row = (4, 1, 0, 7, 2, 2)
            told = house.run(*row)
            self.assertEqual(kinds_of(told), kinds_of(tuple(other.beat(fresh) for fresh in row)))
            self.assertEqual(seen_of(house), seen_of(other))
        self.assertEqual(House(EXAMPLE).run(4, 1, 0), tuple(line[:6] for line in run(EXAMPLE, first_state(EXAMPLE), (4, 1, 0))))

    def test_run_of_nothing(self):
        for house in self.each():
            house.beat(3)
            before = seen_of(house)
            self.assertEqual(kinds_of(house.run()), kinds_of(()))
            self.assertEqual(seen_of(house), before)

    def test_run_does_all_or_none(self):
        for house in self.each():
            house.run(3, 1)
            before = seen_of(house)
            for wrong in NO_FRESH:
                for row in ((wrong, 1, 2), (1, wrong, 2), (1, 2, 5, wrong), (1, wrong, wrong)):
                    with self.assertRaises(NoFresh):
                        house.run(*row)
                    self.assertEqual(seen_of(house), before)
            self.assertEqual([house.undo(), house.undo()], [1, 3])
            with self.assertRaises(NothingDone):
                house.undo()

    def test_run_of_more_than_200(self):
        for house in self.each():
            self.assertEqual(len(house.run(*[1, 0, 5] * 101)), 303)
            self.assertEqual(house.beats, 303)

    def test_undo(self):
        for house in self.each(EXAMPLE, WAITING):
            row = (4, 1, 0, 7, 2, 2)
            looks = [seen_of(house)]
            for fresh in row:
                house.beat(fresh)
                looks.append(seen_of(house))
            for fresh, look in zip(row[::-1], looks[-2::-1]):
                told = house.undo()
                self.assertEqual(kinds_of(told), kinds_of(fresh))
                self.assertEqual(seen_of(house), look)
            with self.assertRaises(NothingDone):
                house.undo()

    def test_undo_of_beats_done_by_run(self):
        for house in self.each():
            house.beat(2)
            look = seen_of(house)
            house.run(4, 1, 3)
            self.assertEqual([house.undo() for _ in range(3)], [3, 1, 4])
            self.assertEqual(seen_of(house), look)

    def test_beats_behind_an_undo(self):
        for house in self.each(WAITING):
            house.run(4, 1, 3)
            house.undo()
            house.undo()
            house.run(0, 6)
            other = made(type(house), WAITING)
            other.run(4, 0, 6)
            self.assertEqual(seen_of(house), seen_of(other))
            self.assertEqual([house.undo() for _ in range(3)], [6, 0, 4])

    def test_nothing_done(self):
        for house in self.each():
            for _ in range(2):
                with self.assertRaises(NothingDone) as caught:
                    house.undo()
                self.assertIs(type(caught.exception), NothingDone)
                house.run(1, 2)
                house.undo()
                house.undo()

    def test_trial_that_returns(self):
        for house in self.each():
            given = []

            def work(one):
                given.append(one)
                one.run(3, 1)
                return ["all", {1: 2}]

            self.assertEqual(house.trial(work), ["all", {1: 2}])
            self.assertIs(given[0], house)
            self.assertEqual(house.beats, 2)
            self.assertEqual([house.undo(), house.undo()], [1, 3])

    def test_trial_gives_back_the_very_thing(self):
        thing = [1]
        for house in self.each():
            self.assertIs(house.trial(lambda one: thing), thing)
            self.assertIsNone(house.trial(lambda one: None))
            self.assertIs(house.trial(lambda one: one), house)
            self.assertIs(house.trial(work=lambda one: False), False)

    def test_trial_that_ends_with_an_exception(self):
        for raised in (ServeError("no"), TooMany(7), KeyError("key"), ZeroDivisionError(), ValueError("x"), StopIteration(),
                       KeyboardInterrupt(), SystemExit(3), AssertionError("no")):
            for house in self.each(EXAMPLE, WAITING):
                house.run(3, 1, 4)
                before = seen_of(house)

                def work(one):
                    one.run(5, 5)
                    one.undo()
                    one.beat(7)
                    raise raised

                with self.assertRaises(type(raised)) as caught:
                    house.trial(work)
                self.assertIs(caught.exception, raised)
                self.assertEqual(seen_of(house), before)
                self.assertEqual([house.undo() for _ in range(3)], [4, 1, 3])

    def test_trial_that_ends_with_an_exception_of_the_house(self):
        for house in self.each():
            house.run(3, 1)
            before = seen_of(house)
            for error, work in (
                (NoFresh, lambda one: [one.beat(2), one.beat(1000)]),
                (NoFresh, lambda one: [one.beat(2), one.run(1, 2, True)]),
                (NothingDone, lambda one: [one.beat(9)] + [one.undo() for _ in range(9)]),
            ):
                with self.assertRaises(error):
                    house.trial(work)
                self.assertEqual(seen_of(house), before)

    def test_undo_within_a_trial(self):
        for house in self.each():
            house.run(3, 1, 4)
            before = seen_of(house)

            def take_back(one):
                return [one.undo(), one.undo(), one.beat(6)]

            def take_back_all(one):
                take_back(one)
                one.undo()
                one.undo()
                one.run(9, 9)
                raise KeyError("no")

            with self.assertRaises(KeyError):
                house.trial(take_back_all)
            self.assertEqual(seen_of(house), before)
            self.assertEqual(house.trial(take_back)[:2], [4, 1])
            self.assertEqual(house.beats, 2)
            self.assertEqual([house.undo(), house.undo()], [6, 3])

    def test_one_trial_within_another(self):
        for house in self.each():
            house.beat(3)
            before = seen_of(house)

            def fails(one):
                one.run(7, 7)
                one.undo()
                one.undo()
                one.undo()
                raise KeyError("inner")

            def catches(one):
                one.beat(1)
                with self.assertRaises(KeyError):
                    one.trial(fails)
                self.assertEqual(one.beats, 2)
                one.trial(lambda same: same.run(2, 2))
                return one.beats

            def fails_behind(one):
                catches(one)
                raise ZeroDivisionError

            def lets_through(one):
                one.beat(1)
                one.trial(fails)

            self.assertEqual(house.trial(catches), 4)
            self.assertEqual([house.undo() for _ in range(3)], [2, 2, 1])
            self.assertEqual(seen_of(house), before)
            for error, work in ((ZeroDivisionError, fails_behind), (KeyError, lets_through)):
                with self.assertRaises(error):
                    house.trial(work)
                self.assertEqual(seen_of(house), before)
            self.assertEqual(house.undo(), 3)

    def test_work_that_is_caught_and_goes_on(self):
        for house in self.each():
            def work(one):
                one.beat(1)
                try:
                    one.beat(None)
                except NoFresh:
                    one.beat(2)
                return one.beats

            self.assertEqual(house.trial(work), 2)

    def test_len(self):
        house = House(EXAMPLE)
        wanted = []
        for fresh in (0, 4, 1, 1, 0, 9, 0, 0):
            house.beat(fresh)
            wanted.append(house.state[0] + len(house.state[1]))
            self.assertEqual(kinds_of(len(house)), kinds_of(wanted[-1]))
        self.assertEqual(wanted[:3], [0, 2, 2])
        house = House(WAITING)
        house.beat(5)
        self.assertEqual((house.state[0], len(house.state[1]), len(house)), (0, 4, 4))
        both = House((1, 5, 2, 1, 1, "newest", True, None, None))
        both.run(3, 2)
        self.assertEqual((both.state[0], len(both.state[1]), len(both)), (2, 1, 3))

    def test_in(self):
        for house in self.each(EXAMPLE, WAITING, gate=999):
            states = [house.state]
            for fresh in (4, 1, 0, 6, 0):
                house.beat(fresh)
                states.append(house.state)
            self.assertGreater(len(set(states)), 4)
            for state in states:
                self.assertIs(state in house, True)
                self.assertIs(state not in house, False)
            # An equal one will do.
            self.assertIs(copy.deepcopy(states[2]) in house, True)
            while house.beats:
                house.undo()
                left = states[:house.beats + 1]
                for state in states:
                    self.assertIs(state in house, state in left)
            self.assertIs(first_state(house.setting) in house, True)

    def test_in_behind_a_trial(self):
        for house in self.each(WAITING):
            def work(one):
                one.run(3, 3)
                states.append(one.state)
                self.assertIn(one.state, one)
                raise KeyError

            states = []
            with self.assertRaises(KeyError):
                house.trial(work)
            self.assertNotIn(states[0], house)

    def test_states_that_were_not_met(self):
        dice = random.Random(120)
        for house in self.each(WAITING):
            house.run(4, 1, 0)
            met = {first_state(WAITING), house.state}
            while len(met) < 4 and house.beats:
                house.undo()
                met.add(house.state)
            house.run(4, 1, 0)
            for _ in range(50):
                state = some_state(dice, WAITING)
                self.assertIs(state in house, state in met)

    def test_in_of_any_value(self):
        for house in self.each():
            house.run(4, 1)
            for value in strange_values() + [NO_SETTINGS, House, House(EXAMPLE), house, TooMany(3), (house,) * 5,
                                             (0, (), ((house,),), 0, 0), (0, (house,), ((0,),), 0, 0)]:
                self.assertIs(value in house, False)

    def test_in_of_states_of_other_kinds(self):
        house = House((1, 3, 2, 2, 1, "oldest", False, 1, (1, 1)))
        house.run(1, 3)
        # Numbers 0 and 1 that True and False are equal to, in every place.
        for state in (first_state(house.setting), house.state):
            self.assertIn(state, house)
            dead, queue, later, tokens, door = state
            for wrong in ((bool(dead), queue, later, tokens, door), (dead, queue, ((later[0][0] == 1,),), tokens, door),
                          (dead, queue, later, tokens == 1, door), (dead, queue, later, tokens, door == 1),
                          (dead, tuple((left == 1, age) for left, age in queue) + ((True, 1),), later, tokens, door),
                          list(state), (dead, list(queue), later, tokens, door), (dead, queue, list(later), tokens, door),
                          (dead, queue, tuple(map(list, later)), tokens, door),
                          (dead, tuple(map(list, queue)) or [], later, tokens, door), state[:4], state + (0,)):
                self.assertIs(wrong in house, False, wrong)
        self.assertEqual(house.state, (0, ((1, 1), (1, 1)), ((0,),), 1, 0))
        for wrong in ((0, ((True, 1), (1, 1)), ((0,),), 1, 0), (0, ((1, True), (1, 1)), ((0,),), 1, 0),
                      (0, ((1, 1), (1, 1)), ((0,),), True, 0), (False, ((1, 1), (1, 1)), ((0,),), 1, 0),
                      (0, ((1, 1), (1, 1)), ((False,),), 1, 0), (0, ((1, 1), (1, 1)), ((0,),), 1, False)):
            self.assertEqual(wrong, house.state)
            self.assertIs(wrong in house, False)

    def same(self, one, other):
        self.assertIs(one == other, True)
        self.assertIs(one != other, False)
        self.assertIs(other == one, True)
        self.assertIs(other != one, False)

    def unlike(self, one, other):
        self.assertIs(one == other, False)
        self.assertIs(one != other, True)
        self.assertIs(other == one, False)
        self.assertIs(other != one, True)

    def test_equal_houses(self):
        for house in self.each(EXAMPLE, WAITING, gate=9):
            other = made(type(house), house.setting, 9)
            self.same(house, house)
            self.same(house, other)
            house.beat(4)
            self.unlike(house, other)
            other.beat(4)
            self.same(house, other)
            house.undo()
            self.unlike(house, other)

    def test_only_the_state_matters_not_how_it_was_come_to(self):
        for house in self.each(ONCE):
            other = made(type(house), ONCE)
            house.run(1, 0, 5, 0)
            self.assertEqual(house.state, other.state)
            self.assertNotEqual((house.beats, house.answered), (other.beats, other.answered))
            self.same(house, other)

    def test_other_settings(self):
        # Their states are equal.
        settings = (EXAMPLE, EXAMPLE[:5] + ("newest",) + EXAMPLE[6:], (1,) + EXAMPLE[1:], EXAMPLE[:6] + (False, None, None),
                    EXAMPLE[:7] + (0, None), EXAMPLE[:7] + (None, (1, 1)))
        for kind in KINDS:
            for one in settings:
                for other in settings:
                    if one == other:
                        self.same(made(kind, one), made(kind, other))
                    else:
                        self.unlike(made(kind, one), made(kind, other))

    def test_other_classes(self):
        houses = [made(kind) for kind in KINDS]
        for one in houses:
            for other in houses:
                if one is not other:
                    self.unlike(one, other)

    def test_a_class_of_the_caller(self):
        class Own(House):
            pass

        class OwnShielded(Shielded):
            pass

        self.same(Own(EXAMPLE), Own(EXAMPLE))
        self.unlike(Own(EXAMPLE), House(EXAMPLE))
        self.same(OwnShielded(EXAMPLE, 2), OwnShielded(EXAMPLE, 2))
        self.unlike(OwnShielded(EXAMPLE, 2), OwnShielded(EXAMPLE, 3))
        self.unlike(OwnShielded(EXAMPLE, 2), Shielded(EXAMPLE, 2))
        self.assertEqual(repr(Own(EXAMPLE)), "Own(0 in the queue, 0 beats)")

    def test_a_class_of_the_same_name_that_is_no_house(self):
        other = type("House", (), {"state": first_state(EXAMPLE), "setting": EXAMPLE})()
        self.unlike(House(EXAMPLE), other)

    def test_other_gates(self):
        for kind in GATED_KINDS:
            for one in (0, 1, 2, 999):
                for other in (0, 1, 2, 999):
                    if one == other:
                        self.same(kind(EXAMPLE, one), kind(EXAMPLE, other))
                    else:
                        self.unlike(kind(EXAMPLE, one), kind(EXAMPLE, other))

    def test_equal_to_nothing_else(self):
        for house in self.each():
            for value in strange_values() + [house.state, house.setting, repr(house), House, type(house), object(), [house],
                                             (house,), TooMany(3)]:
                self.unlike(house, value)

    def test_repr(self):
        for house in self.each(EXAMPLE, gate=9):
            name = type(house).__name__
            self.assertEqual(repr(house), name + "(0 in the queue, 0 beats)")
            house.beat(3)
            self.assertEqual(repr(house), name + "(1 in the queue, 1 beats)")
            house.beat(9)
            self.assertEqual(repr(house), f"{name}({len(house)} in the queue, 2 beats)")
            self.assertIs(type(repr(house)), str)
        three = House((1, 4, 1, 1, 1, "newest", True, None, None))
        three.run(4, 0, 2, 1, 1)
        self.assertEqual(repr(three), "House(3 in the queue, 5 beats)")

    def test_hundreds_of_beats(self):
        dice = random.Random(121)
        for kind in KINDS:
            house, slow = made(kind, WAITING, 3), SlowHouse(WAITING, 3 if kind in GATED_KINDS else None)
            row = [dice.randint(0, 6) for _ in range(700)]
            house.run(*row[:300])
            for fresh in row[300:]:
                house(fresh)
            slow.row = list(row)
            self.assertEqual(seen_of(house), slow.seen_as(house))
            states, _ = slow.look()
            self.assertTrue(all(state in house for state in states[::7]))
            for fresh in row[:100:-1]:
                self.assertEqual(house.undo(), fresh)
            slow.row = row[:101]
            self.assertEqual(seen_of(house), slow.seen_as(house))

    def test_any_calls_as_the_slow_model_does(self):
        dice = random.Random(122)
        for number in range(160):
            kind = KINDS[number % 4]
            setting = some_plain_setting(dice)
            gate = dice.choice((0, 1, 2, 3, 999)) if kind in GATED_KINDS else None
            house, slow = made(kind, setting, gate), SlowHouse(setting, gate)
            for _ in range(25):
                self.some_call(dice, house, slow)
                self.assertEqual(seen_of(house), slow.seen_as(house))
            states, told = slow.look()
            for state in states + [some_state(dice, setting) for _ in range(5)]:
                self.assertIs(state in house, state in states)

    def some_call(self, dice, house, slow):
        word = dice.choice(("beat", "call", "run", "undo", "trial", "fail", "refused"))
        row = [dice.choice((0, 1, 1, 2, 3, 4, 9)) for _ in range(dice.randint(0, 3))]
        if word in ("beat", "call"):
            told = house.beat(5) if word == "beat" else house(5)
            slow.row.append(5)
            self.assertEqual(told, slow.look()[1][-1])
        elif word == "run":
            told = house.run(*row)
            slow.row += row
            self.assertEqual(told, tuple(slow.look()[1][len(slow.row) - len(row):]))
        elif word == "undo" and slow.row:
            self.assertEqual(house.undo(), slow.row.pop())
        elif word == "trial":
            self.assertEqual(house.trial(lambda one: one.run(*row)), house_told(slow, row))
            slow.row += row
        elif word == "fail":
            with self.assertRaises(KeyError):
                house.trial(lambda one: [one.run(*row), [one.undo() for _ in range(min(one.beats, 2))], {}["no"]])
        elif word == "refused":
            with self.assertRaises(NoFresh):
                house.run(*row, -1)

    def test_wrong_settings(self):
        for kind in KINDS:
            for wrong in NO_SETTINGS:
                with self.assertRaises(NoSetting):
                    made(kind, wrong)
                if kind in GATED_KINDS:
                    with self.assertRaises(NoSetting):
                        kind(wrong, -1)

    def test_properties_are_not_assigned(self):
        for house in self.each():
            house.run(3, 1)
            before = seen_of(house)
            for name in PROPERTIES:
                with self.assertRaises(AttributeError):
                    setattr(house, name, 1)
            self.assertEqual(seen_of(house), before)

    def test_looking_changes_nothing(self):
        for house in self.each():
            house.run(3, 1)
            before = seen_of(house)
            for _ in range(3):
                self.assertEqual(seen_of(house), before)
                house == made(type(house))
                house.state in house
            self.assertEqual(house.undo(), 1)

    def test_houses_go_on_by_themselves(self):
        one, other = House(EXAMPLE), House(EXAMPLE)
        one.beat(4)
        self.assertEqual((one.beats, other.beats), (1, 0))
        noted = Noted(EXAMPLE)
        noted.beat(4)
        self.assertEqual(Noted(EXAMPLE).told, ())

    def test_by_names(self):
        self.assertEqual(House(setting=EXAMPLE), House(EXAMPLE))
        self.assertEqual(Noted(setting=EXAMPLE), Noted(EXAMPLE))
        for kind in GATED_KINDS:
            self.assertEqual(kind(gate=3, setting=EXAMPLE), kind(EXAMPLE, 3))
        self.assertEqual(House(EXAMPLE).beat(fresh=4), (4, 2, 0, 0, 2, 0))

    def test_methods_stand_in_the_class(self):
        for name in PROPERTIES + ("beat", "run", "undo", "trial", "__init__", "__call__", "__len__", "__contains__",
                                  "__eq__", "__repr__"):
            self.assertIn(name, vars(House))
        for name in PROPERTIES:
            self.assertIsInstance(vars(House)[name], property)
        for kind, names in ((Shielded, ("__init__", "gate", "turned")), (Noted, ("__init__", "told")),
                            (NotedShielded, ("__init__",))):
            for name in names:
                self.assertIn(name, vars(kind))
        for kind in KINDS:
            self.assertEqual(kind.__module__, "comesback.houses")
            self.assertIs(getattr(houses_file, kind.__name__), kind)

    def test_what_is_derived_from_what(self):
        self.assertEqual(House.__bases__, (object,))
        self.assertEqual(Shielded.__bases__, (House,))
        self.assertEqual(Noted.__bases__, (House,))
        self.assertEqual(NotedShielded.__bases__, (Noted, Shielded))


def house_told(slow, row):
    """What a run of the row tells behind what the slow house has done."""
    further = SlowHouse(slow.setting, slow.gate)
    further.row = slow.row + row
    return tuple(further.look()[1][len(slow.row):])


class ShieldedHouses(unittest.TestCase):
    def test_gates(self):
        for kind in GATED_KINDS:
            for gate in (0, 1, 2, 500, 998, 999):
                self.assertEqual(kinds_of(kind(EXAMPLE, gate).gate), kinds_of(gate))

    def test_wrong_gates(self):
        for kind in GATED_KINDS:
            for wrong in NO_FRESH:
                with self.assertRaises(NoGate) as caught:
                    kind(EXAMPLE, wrong)
                self.assertIs(type(caught.exception), NoGate)

    def test_at_most_gate_are_let_in(self):
        for kind in GATED_KINDS:
            for gate in (0, 1, 3, 999):
                house, other = kind(EXAMPLE, gate), House(EXAMPLE)
                turned = 0
                for fresh in (0, 1, 2, 3, 4, 9, 999, 0):
                    self.assertEqual(house.beat(fresh), other.beat(min(fresh, gate)))
                    self.assertEqual(house.state, other.state)
                    turned += max(0, fresh - gate)
                    self.assertEqual(kinds_of(house.turned), kinds_of(turned))
                self.assertEqual((house.beats, house.answered, house.lost), (other.beats, other.answered, other.lost))

    def test_what_comes_again_is_not_turned_away(self):
        house = Shielded((1, 1, 1, 2, 1, "oldest", False, None, None), 2)
        self.assertEqual(house.beat(2), (2, 1, 0, 1, 0, 0))
        self.assertEqual(house.beat(5), (3, 1, 0, 2, 0, 0))
        self.assertEqual(house.turned, 3)

    def test_a_call_and_run_go_through_the_gate(self):
        for kind in GATED_KINDS:
            house = kind(ONCE, 2)
            self.assertEqual(house(5), (2, 1, 0, 1, 0, 1))
            self.assertEqual(house.run(7, 1), ((2, 1, 0, 1, 0, 1), (1, 1, 0, 0, 0, 0)))
            self.assertEqual((house.turned, house.lost), (8, 2))

    def test_beats_taken_back_are_left_out(self):
        for kind in GATED_KINDS:
            house = kind(EXAMPLE, 2)
            house.run(5, 1, 4)
            self.assertEqual(house.turned, 5)
            self.assertEqual(kinds_of(house.undo()), kinds_of(4))
            self.assertEqual(house.turned, 3)
            self.assertEqual([house.undo(), house.turned], [1, 3])
            self.assertEqual([house.undo(), house.turned], [5, 0])

    def test_a_trial_that_fails(self):
        for kind in GATED_KINDS:
            house = kind(EXAMPLE, 2)
            house.beat(5)
            with self.assertRaises(KeyError):
                house.trial(lambda one: [one.run(9, 9), {}["no"]])
            self.assertEqual((house.turned, house.gate), (3, 2))
            house.trial(lambda one: one.run(9, 9))
            self.assertEqual(house.turned, 17)

    def test_a_house_has_no_gate(self):
        for kind in PLAIN_KINDS:
            for name in ("gate", "turned"):
                self.assertFalse(hasattr(kind(EXAMPLE), name))
            with self.assertRaises(TypeError):
                kind(EXAMPLE, 3)
        for kind in GATED_KINDS:
            with self.assertRaises(TypeError):
                kind(EXAMPLE)


class NotedHouses(unittest.TestCase):
    def test_told(self):
        for kind in (Noted, NotedShielded):
            house = made(kind, WAITING, 3)
            wanted = []
            for fresh in (4, 1, 0, 7, 2):
                wanted.append(house.beat(fresh))
                self.assertEqual(kinds_of(house.told), kinds_of(tuple(wanted)))
            wanted.append(house(3))
            wanted.extend(house.run(2, 9))
            self.assertEqual(kinds_of(house.told), kinds_of(tuple(wanted)))

    def test_by_hand(self):
        house = Noted(EXAMPLE)
        house.run(4, 1)
        self.assertEqual(house.told, ((4, 2, 0, 0, 2, 0), (3, 0, 2, 1, 2, 2)))
        both = NotedShielded(EXAMPLE, 1)
        both.run(4, 1)
        self.assertEqual(both.told, ((1, 1, 0, 0, 0, 0), (1, 1, 0, 0, 0, 0)))
        self.assertEqual(both.turned, 3)

    def test_beats_taken_back(self):
        for kind in (Noted, NotedShielded):
            house = made(kind, WAITING, 3)
            told = house.run(4, 1, 0)
            for many in (2, 1, 0):
                house.undo()
                self.assertEqual(house.told, told[:many])

    def test_a_trial_that_fails(self):
        for kind in (Noted, NotedShielded):
            house = made(kind, WAITING, 3)
            told = house.run(4, 1, 0)
            with self.assertRaises(KeyError):
                house.trial(lambda one: [one.undo(), one.run(9, 9), {}["no"]])
            self.assertEqual(house.told, told)

    def test_others_take_no_notes(self):
        self.assertFalse(hasattr(House(EXAMPLE), "told"))
        self.assertFalse(hasattr(Shielded(EXAMPLE, 2), "told"))


if __name__ == "__main__":
    unittest.main()
