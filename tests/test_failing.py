import random
import unittest

from comesback import failing as failing_file
from comesback.errors import NoCount, NoService, NoServices, NoTree, TooMany
from comesback.failing import numbers, only, shows_only, worst_set
from comesback.trees import ran

from tests.model import kinds_of, strange_values
from tests.refusals import ANY_KIND, check_calls, refuse_in_order
from tests.slow_trees import (
    SETS, chain, products, slow_calls, slow_count, slow_fails, slow_numbers, slow_only, slow_ran, slow_shows, some_tree,
)
from tests.test_trees import TREE_KIND

FREE = (None, False)
LEAF = (0, 1, "all", ())
NO_SERVICES = tuple(thing for thing in strange_values() if thing != ()) + (
    [0], [], (0, 0), (1, 0), (-1,), (4,), (0, 4), (-1, 0), (True,), (False,), (0, True), (False, 1), (0, None), ("0",),
    (0, 1, 2, 3, 4), (0, 1, 1), (3, 2), ((0,),), ([0],), {0: 1}, (None,), (2, 10 ** 12 - 1), (0, {}),
)
NO_SERVICE = (True, False, -1, 4, 10, 10 ** 12 - 1, "", "0", "None", (), (0,), [], [0], {}, (None,))
NO_COUNT = (True, False, None, -1, 5, 10 ** 12 - 1, "", "2", (), (2,), [], [2], {})
SERVICES_KIND = ((0, 2), (NoServices, NO_SERVICES))
SERVICE_KIND = (2, (NoService, NO_SERVICE))
COUNT_KIND = (2, (NoCount, NO_COUNT))


def part(service, tries=1, *parts, mode="all"):
    return (service, tries, mode, parts)


# Each with a tree, the failing ones, a service and what numbers tells; by hand.
BY_HAND = (
    (LEAF, (), None, (1, None, ())),
    (LEAF, (1, 2, 3), None, (1, None, ())),
    (LEAF, (0,), None, (1, 1, ())),
    (LEAF, (0,), 0, (1, 1, ())),
    (LEAF, (0,), 1, (0, 0, ())),
    (LEAF, (), 1, (0, None, ())),
    (part(2, 3), (), None, (1, None, ())),
    (part(2, 3), (2,), None, (3, 3, ())),
    (part(2, 3), (2,), 2, (3, 3, ())),
    (part(2, 3, mode="any"), (2,), None, (3, 3, ())),
    # "all": a part that fails spoils the attempt ahead of what stands behind it.
    (part(0, 2, part(1), part(2)), (), None, (3, None, ((1, None, ()), (1, None, ())))),
    (part(0, 2, part(1), part(2)), (0,), None, (6, 6, ((1, None, ()), (1, None, ())))),
    (part(0, 2, part(1), part(2)), (1,), None, (5, 4, ((1, 1, ()), (1, None, ())))),
    (part(0, 2, part(1), part(2)), (2,), None, (6, 6, ((1, None, ()), (1, 1, ())))),
    (part(0, 2, part(1), part(2)), (1,), 0, (2, 2, ((0, 0, ()), (0, None, ())))),
    (part(0, 2, part(1), part(2)), (1,), 1, (2, 2, ((1, 1, ()), (0, None, ())))),
    (part(0, 2, part(1), part(2)), (1,), 2, (1, 0, ((0, 0, ()), (1, None, ())))),
    (part(0, 2, part(1), part(2)), (1, 2), 2, (2, 2, ((0, 0, ()), (1, 1, ())))),
    (part(0, 3, part(1, 2), part(2, 3)), (1,), None, (10, 9, ((2, 2, ()), (1, None, ())))),
    (part(0, 3, part(1, 2), part(2, 3)), (1, 2), None, (18, 18, ((2, 2, ()), (3, 3, ())))),
    # "any": what answers ahead shields what stands behind, and what fails behind one that cannot is never come to.
    (part(0, 2, part(1), part(2), mode="any"), (), None, (2, None, ((1, None, ()), (1, None, ())))),
    (part(0, 2, part(1), part(2), mode="any"), (1,), None, (3, None, ((1, 1, ()), (1, None, ())))),
    (part(0, 2, part(1), part(2), mode="any"), (2,), None, (2, None, ((1, None, ()), (1, 1, ())))),
    (part(0, 2, part(1), part(2), mode="any"), (2,), 2, (0, None, ((0, None, ()), (1, 1, ())))),
    (part(0, 2, part(1), part(2), mode="any"), (1, 2), None, (6, 6, ((1, 1, ()), (1, 1, ())))),
    (part(0, 2, part(1), part(2), mode="any"), (0,), None, (4, 4, ((1, None, ()), (1, None, ())))),
    (part(0, 2, part(1), part(2), mode="any"), (0, 1), None, (6, 6, ((1, 1, ()), (1, None, ())))),
    (part(0, 2, part(1, 3), part(2), mode="any"), (1,), None, (5, None, ((3, 3, ()), (1, None, ())))),
    (part(0, 1, part(1), part(2), part(3, 3), mode="any"), (1, 3), None,
     (3, None, ((1, 1, ()), (1, None, ()), (3, 3, ())))),
    (part(0, 1, part(1, 1, part(2, 3)), part(3), mode="any"), (2,), None,
     (6, None, ((4, 4, ((3, 3, ()),)), (1, None, ())))),
    # A part that answers with more asks than it can fail with and the next one has.
    (part(0, 1, part(1, 1, part(2), part(3), part(3)), part(3), mode="any"), (2,), None,
     (5, None, ((4, 2, ((1, 1, ()), (1, None, ()), (1, None, ()))), (1, None, ())))),
    # Tries within tries.
    (chain(4, 1, 3), (1,), None, (120, 120, ((39, 39, ((12, 12, ((3, 3, ()),)),)),))),
    (part(0, 3, part(1, 3, part(2, 3, part(3, 3)))), (3,), 3, (81, 81, ((27, 27, ((9, 9, ((3, 3, ()),)),)),))),
    (part(0, 3, part(1, 3, part(2, 3, part(3, 3)))), (3,), 0, (3, 3, ((0, 0, ((0, 0, ((0, 0, ()),)),)),))),
    (part(0, 3, part(1, 3, part(2, 3, part(3, 3)))), (2,), None,
     (66, 66, ((21, 21, ((6, 6, ((1, None, ()),)),)),))),
)
# What stands last is asked only if all four services fail.
FOUR = part(0, 1, part(1), part(2), part(1, 1, part(3), part(0), part(2), mode="any"), mode="any")
# Trees of twelve calls, four deep, three tries each.
LARGE = tuple(
    (0, 3, first, (
        (1, 3, second, ((2, 3, first, ((3, 3, second, ()), (0, 3, "all", ()))), (3, 3, first, ((1, 3, "any", ()),)))),
        (2, 3, first, ((0, 3, second, ((1, 3, first, ()), (2, 3, "any", ()), (3, 3, "all", ()))),))))
    for first in ("all", "any") for second in ("all", "any")
)


class Only(unittest.TestCase):
    def test_numbers_by_hand(self):
        for tree, failing, service, wanted in BY_HAND:
            with self.subTest(tree=tree, failing=failing, service=service):
                self.assertEqual(kinds_of(numbers(tree, failing, service)), kinds_of(wanted))

    def test_the_slow_look_tells_so(self):
        for tree, failing, service, wanted in BY_HAND:
            if slow_only(tree, FREE, failing, service, 3000) is not None:
                with self.subTest(tree=tree, failing=failing, service=service):
                    self.assertEqual(slow_numbers(tree, failing, service), wanted)

    def brought(self, tree, failing, service, told):
        """The fails are decisions of these services and bring the number told."""
        most, fails = told
        self.assertEqual(type(told), tuple)
        self.assertEqual(type(fails), tuple)
        self.assertEqual({type(one) for one in fails + (most,)}, {int})
        self.assertEqual(fails, tuple(sorted(set(fails))))
        made = slow_fails(tree, FREE, fails)
        self.assertEqual(len(made), len(fails))
        self.assertLessEqual(set(made), set(failing))
        self.assertEqual(slow_count(slow_ran(tree, FREE, fails)[1], service), most)
        self.assertEqual(slow_count(ran(tree, FREE, fails)[1], service), most)

    def test_only_by_hand(self):
        for tree, failing, service, (answered, failed, _) in BY_HAND:
            with self.subTest(tree=tree, failing=failing, service=service):
                told = only(tree, failing, service)
                self.assertEqual(told[0], max(answered, failed or 0))
                self.brought(tree, failing, service, told)

    def test_where_the_fails_can_only_be_these(self):
        # More asks if it answers than if it fails, and the other way about.
        self.assertEqual(only(LEAF, (), None), (1, ()))
        self.assertEqual(only(part(0, 2, part(1), part(2)), (1,), None), (5, (0,)))
        self.assertEqual(only(part(0, 2, part(1), part(2)), (1,), 2), (1, ()))
        self.assertEqual(only(part(0, 2, part(1), part(2), mode="any"), (1,), None), (3, (0,)))
        self.assertEqual(only(part(0, 3, part(1, 2), part(2, 3)), (1,), None), (10, (0, 1, 2, 3, 4)))

    def test_against_the_slow_look(self):
        dice = random.Random(90)
        seen = {"none": 0, "fails": 0, "any": 0}
        for _ in range(700):
            tree = some_tree(dice, dice.randint(1, 7), of=dice.choice(((0, 1), (0, 1, 2, 3))))
            failing = dice.choice(SETS)
            service = dice.choice((None, 0, 1, 2, 3))
            wanted = slow_numbers(tree, failing, service, 600)
            if wanted is not None:
                told = only(tree, failing, service)
                self.assertEqual(told[0], slow_only(tree, FREE, failing, service))
                self.assertEqual(numbers(tree, failing, service), wanted, (tree, failing, service))
                self.brought(tree, failing, service, told)
                self.assertIs(shows_only(tree, failing, service, told + (wanted,)), True)
                seen["none"] += wanted[1] is None
                seen["fails"] += len(told[1]) > 2
                seen["any"] += "any" in str(tree)
        self.assertGreater(min(seen.values()), 60, seen)

    def test_each_set_and_each_service(self):
        tree = part(0, 2, part(1, 2), part(2, 1, part(1), part(3, 2), mode="any"))
        for failing in SETS:
            for service in (None, 0, 1, 2, 3):
                self.assertEqual(numbers(tree, failing, service), slow_numbers(tree, failing, service))
                told = only(tree, failing, service)
                self.assertEqual(told[0], slow_only(tree, FREE, failing, service))
                self.brought(tree, failing, service, told)

    def test_large_trees(self):
        for tree in LARGE + (part(0, 3, *[chain(3, 1, 3)] * 3), part(0, 3, *[chain(3, 1, 3, "any")] * 3)):
            self.assertIn(slow_calls(tree), (10, 12))
            for failing in SETS:
                for service in (None, 0, 2):
                    told = only(tree, failing, service)
                    found = numbers(tree, failing, service)
                    self.brought(tree, failing, service, told)
                    self.assertEqual(told[0], max(found[0], found[1] or 0))
                    self.assertIs(shows_only(tree, failing, service, told + (found,)), True)
                    self.assertTrue(slow_shows(tree, failing, service, told + (found,)))

    def test_nothing_fails(self):
        # Then each call is asked once, but with "any" the first part shields the others.
        dice = random.Random(91)
        for _ in range(50):
            tree = some_tree(dice, 12, modes=("all",))
            self.assertEqual(only(tree, (), None), (slow_calls(tree), ()))
            self.assertIsNone(numbers(tree, (), None)[1])

    def test_the_products_of_tries(self):
        # If all may fail, all attempts of all calls are made in some play of "all" alone.
        dice = random.Random(92)
        for _ in range(60):
            tree = some_tree(dice, 12, modes=("all",))
            self.assertEqual(only(tree, (0, 1, 2, 3), None)[0], sum(product for _, product in products(tree)))

    def test_wrong_arguments(self):
        for call in (only, numbers):
            refuse_in_order(self, call, (TREE_KIND, SERVICES_KIND, SERVICE_KIND))
        refuse_in_order(self, shows_only, (TREE_KIND, SERVICES_KIND, SERVICE_KIND, ANY_KIND))

    def test_none_is_a_service(self):
        for call in (only, numbers):
            call(LEAF, (), None)
            call(LEAF, (0, 1, 2, 3), 3)

    def test_calls(self):
        names = ("tree", "failing", "service")
        values = (LARGE[1], (1, 2), 3)
        told = check_calls(self, only, names, values)
        found = check_calls(self, numbers, names, values)
        thing = told + (found,)
        self.assertIs(check_calls(self, shows_only, names + ("thing",), values + (thing,)), True)
        thing = [told[0], list(told[1]), {1: [list(found)]}]
        self.assertIs(check_calls(self, shows_only, names + ("thing",), values + (thing,)), False)

    def test_they_are_defined_in_their_file(self):
        for call in (only, numbers, shows_only, worst_set):
            self.assertEqual(call.__module__, "comesback.failing")
            self.assertIs(getattr(failing_file, call.__name__), call)


def places(found, way=()):
    """The ways to all calls in what numbers tells."""
    yield way
    for place, one in enumerate(found[2]):
        yield from places(one, way + (place,))


def changed(found, way, change):
    """What numbers tells, with change done to the call at the end of the way."""
    if not way:
        return change(found)
    inner = changed(found[2][way[0]], way[1:], change)
    return found[:2] + (found[2][:way[0]] + (inner,) + found[2][way[0] + 1:],)


def at(found, way):
    for place in way:
        found = found[2][place]
    return found


class ShowsOnly(unittest.TestCase):
    @classmethod
    def setUpClass(cls):
        dice = random.Random(93)
        cases = [case[:3] for case in BY_HAND if case[0] != chain(4, 1, 3)]
        for _ in range(60):
            cases.append((some_tree(dice, dice.randint(2, 7)), dice.choice(SETS), dice.choice((None, 0, 1, 2, 3))))
        cls.cases = [(case, only(*case) + (numbers(*case),)) for case in cases]

    def shown(self, wanted, case, thing):
        self.assertIs(shows_only(*case, thing), wanted, (case, str(thing)[:300]))

    def as_slow(self, case, thing):
        wanted = slow_shows(*case, thing)
        self.shown(wanted, case, thing)
        return wanted

    def test_what_only_and_numbers_tell(self):
        for case, told in self.cases:
            self.shown(True, case, told)

    def test_each_number_greater_and_smaller(self):
        seen = {True: 0, False: 0}
        for case, (most, fails, found) in self.cases:
            for way in places(found):
                for part_of in (0, 1):
                    old = at(found, way)[part_of]
                    for more in (-1000, -2, -1, 1, 2, 1000) if old is not None else ():
                        thing = (most, fails, changed(found, way, lambda one: with_part(one, part_of, old + more)))
                        wanted = self.as_slow(case, thing)
                        seen[wanted] += 1
                        if more < 0:
                            self.assertFalse(wanted)
        self.assertGreater(min(seen.values()), 50, seen)

    def test_none_and_numbers(self):
        seen = {"number": {True: 0, False: 0}, "none": {True: 0, False: 0}}
        for case, (most, fails, found) in self.cases:
            for way in places(found):
                old = at(found, way)[1]
                for new in (None,) if old is not None else (-1000, -1, 0, 1, 2, most, most + 1, 1000):
                    thing = (most, fails, changed(found, way, lambda one: with_part(one, 1, new)))
                    seen["number" if old is not None else "none"][self.as_slow(case, thing)] += 1
                self.shown(False, case, (most, fails, changed(found, way, lambda one: with_part(one, 0, None))))
        # Where a call can fail, None stands for no number of it.
        self.assertEqual(seen["number"][True], 0)
        self.assertGreater(min(seen["none"].values()), 30, seen)

    def test_numbers_below_0_where_a_call_cannot_fail(self):
        # Such a number stands for the asks of a failed part, though none ever fails.
        case = (part(0, 1, part(1), part(2), mode="any"), (), None)
        self.shown(True, case, (2, (), (2, None, ((1, None, ()), (1, None, ())))))
        self.shown(False, case, (2, (), (2, None, ((1, 5, ()), (1, None, ())))))
        self.shown(True, case, (2, (), (2, None, ((1, -5, ()), (1, None, ())))))
        self.shown(True, case, (2, (), (2, 2, ((1, -5, ()), (1, -5, ())))))
        self.shown(True, case, (2, (), (2, -9, ((1, -5, ()), (1, -5, ())))))
        self.shown(False, case, (2, (), (2, -10, ((1, -5, ()), (1, -5, ())))))
        self.shown(False, case, (2, (), (2, 3, ((1, -5, ()), (1, -5, ())))))
        # With three tries a number below 0 makes less of the attempts that fail.
        case = (part(0, 3, part(1)), (), None)
        self.shown(True, case, (2, (), (2, -12, ((1, -5, ()),))))
        self.shown(False, case, (2, (), (2, -13, ((1, -5, ()),))))
        self.shown(False, case, (2, (), (1, -12, ((1, -5, ()),))))
        self.shown(False, case, (2, (), (2, None, ((1, -5, ()),))))

    def test_numbers_changed_together(self):
        dice = random.Random(94)
        seen = {True: 0, False: 0}
        for case, (most, fails, found) in self.cases:
            for _ in range(40):
                thing = found
                for way in places(found):
                    if dice.random() < 0.5:
                        one = at(thing, way)
                        numbers_then = (one[0] + dice.choice((0, 0, 1, 3, -1)),
                                        one[1] + dice.choice((0, 0, 1, -1)) if one[1] is not None
                                        else dice.choice((None, None, 0, 1, -3)))
                        thing = changed(thing, way, lambda old: numbers_then + old[2:])
                seen[self.as_slow(case, (most, fails, thing))] += 1
        self.assertGreater(min(seen.values()), 100, seen)

    def test_most_greater_and_smaller(self):
        for case, (most, fails, found) in self.cases:
            for other in (most - 1, most + 1, 0, -most, most * 2 + 1, 10 ** 12 - 1):
                if other != most:
                    self.shown(False, case, (other, fails, found))
                    # Not even with numbers to match.
                    self.shown(False, case, (other, fails, (other, other if found[1] is not None else None, found[2])))

    def test_other_fails(self):
        seen = {True: 0, False: 0}
        dice = random.Random(95)
        for case, (most, fails, found) in self.cases:
            for _ in range(30):
                other = tuple(number for number in range(12) if dice.random() < 0.4)
                seen[self.as_slow(case, (most, other, found))] += 1
            for leave in range(len(fails)):
                self.as_slow(case, (most, fails[:leave] + fails[leave + 1:], found))
        self.assertGreater(min(seen.values()), 100, seen)

    def test_fails_of_other_services(self):
        # The right number of asks, but by a decision of a service that may not fail.
        case = (part(0, 2, part(1), part(2)), (1,), None)
        self.shown(True, case, (5, (0,), (5, 4, ((1, 1, ()), (1, None, ())))))
        self.shown(False, case, (6, (1,), (6, 4, ((1, 1, ()), (1, None, ())))))
        case = (part(0, 1, part(1), part(2)), (1,), None)
        self.shown(True, case, (3, (), (3, 2, ((1, 1, ()), (1, None, ())))))
        self.shown(False, case, (3, (1,), (3, 2, ((1, 1, ()), (1, None, ())))))
        self.shown(False, case, (3, (2,), (3, 2, ((1, 1, ()), (1, None, ())))))
        self.shown(True, case, (3, (3,), (3, 2, ((1, 1, ()), (1, None, ())))))

    def test_fails_beyond_the_decisions(self):
        for case, (most, fails, found) in self.cases:
            for more in ((400,), (500, 501, 10 ** 12 - 1), (10 ** 40,), tuple(range(1000, 9000))):
                self.shown(True, case, (most, fails + more, found))

    def test_with_other_services(self):
        for case, told in self.cases:
            tree, failing, service = case
            for other in SETS:
                self.as_slow((tree, other, service), told)
            for other in (None, 0, 1, 2, 3):
                self.as_slow((tree, failing, other), told)

    def test_parts_of_other_kinds(self):
        for case, (most, fails, found) in self.cases:
            for wrong in (None, True, False, "", str(most), (most,), [most], {}):
                self.shown(False, case, (wrong, fails, found))
                if not isinstance(wrong, tuple):
                    self.shown(False, case, (most, wrong, found))
                self.shown(False, case, (most, fails, wrong))
                for way in places(found):
                    self.shown(False, case, (most, fails, changed(found, way, lambda one: with_part(one, 0, wrong))))
                    if wrong is not None:
                        self.shown(False, case,
                                   (most, fails, changed(found, way, lambda one: with_part(one, 1, wrong))))
                    self.shown(False, case, (most, fails, changed(found, way, lambda one: with_part(one, 2, wrong))))
                    self.shown(False, case, (most, fails, changed(found, way, lambda one: wrong)))
            for wrong in ((0, 0), (1, 0), (-1,), (True,), (None,), ("0",), [0], ((0,),)):
                self.shown(False, case, (most, wrong, found))
                self.shown(False, case, (most, fails + wrong if isinstance(wrong, tuple) else wrong, found))

    def test_bools_for_numbers(self):
        case = (LEAF, (0,), None)
        self.shown(True, case, (1, (), (1, 1, ())))
        self.shown(True, case, (1, (0,), (1, 1, ())))
        self.shown(True, case, (1, (1,), (1, 1, ())))
        for thing in ((True, (), (1, 1, ())), (1, (False,), (1, 1, ())), (1, (True,), (1, 1, ())),
                      (1, (), (True, 1, ())), (1, (), (1, True, ()))):
            self.shown(False, case, thing)
        case = (LEAF, (0,), 1)
        self.shown(True, case, (0, (), (0, 0, ())))
        for thing in ((False, (), (0, 0, ())), (0, (), (False, 0, ())), (0, (), (0, False, ()))):
            self.shown(False, case, thing)

    def test_lists_for_tuples(self):
        for case, (most, fails, found) in self.cases:
            self.shown(False, case, [most, fails, found])
            self.shown(False, case, (most, list(fails), found))
            for way in places(found):
                self.shown(False, case, (most, fails, changed(found, way, list)))
                self.shown(False, case, (most, fails, changed(found, way, lambda one: one[:2] + (list(one[2]),))))

    def test_a_nest_of_another_form(self):
        for case, (most, fails, found) in self.cases:
            for way in places(found):
                for change in (lambda one: one[:2], lambda one: one + ((),), lambda one: one[:2] + (one[2] + ((1, 1, ()),),),
                               lambda one: one[:2] + (((0, None, ()),) + one[2],), lambda one: (one,),
                               lambda one: one[:2] + (one[2][:-1] if one[2] else None,), lambda one: (),
                               lambda one: (one[2], one[0], one[1])):
                    self.shown(False, case, (most, fails, changed(found, way, change)))

    def test_the_whole_of_other_forms(self):
        for case, told in self.cases:
            for thing in (told[:2], told + ((),), told[::-1], (told,), ("only",) + told, told[2], told[0]):
                self.shown(False, case, thing)

    def test_values_that_are_nothing_of_the_kind(self):
        for case in ((LEAF, (0,), None), (part(0, 2, part(1), part(2)), (1,), 2)):
            for value in strange_values() + [TooMany(3), NoTree, only]:
                # A number may be right where it stands.
                value = (value, value) if value in (0, 1) and not isinstance(value, bool) else value
                for thing in (value, (value,), (value,) * 3, (value, (), (1, 1, ())), (1, (), value), (1, (), (value,)),
                              (1, (), (value,) * 3), (1, (value, value), (1, 1, ())), (1, (), (1, 1, (value,)))):
                    self.shown(False, case, thing)

    def test_shown_with_greater_numbers_where_they_are_not_needed(self):
        # What is never come to may have any greater number, if nothing above it needs more.
        tree = part(0, 1, part(1), part(2, 3), mode="any")
        case = (tree, (2,), None)
        self.assertEqual(numbers(*case), (2, None, ((1, None, ()), (3, 3, ()))))
        self.shown(True, case, (2, (), (2, None, ((1, None, ()), (99, 99, ())))))
        self.shown(True, case, (2, (), (2, None, ((1, None, ()), (3, 99, ())))))
        self.shown(False, case, (2, (), (2, None, ((1, None, ()), (2, 3, ())))))
        self.shown(False, case, (2, (), (2, None, ((1, None, ()), (3, 2, ())))))
        self.shown(False, case, (2, (), (2, None, ((1, None, ()), (3, None, ())))))
        self.shown(False, case, (2, (), (2, None, ((2, None, ()), (3, 3, ())))))


def with_part(one, place, new):
    return one[:place] + (new,) + one[place + 1:]


class WorstSet(unittest.TestCase):
    def slow(self, tree, service, many):
        told = [(-only(tree, failing, service)[0], len(failing), failing) for failing in SETS if len(failing) <= many]
        most, _, failing = min(told)
        return (failing, -most)

    def test_by_hand(self):
        two = part(0, 2, part(1, 1), part(2, 1))
        for tree, service, many, wanted in (
            (LEAF, None, 0, ((), 1)), (LEAF, None, 4, ((), 1)), (LEAF, 1, 3, ((), 0)),
            (part(0, 2), None, 0, ((), 1)), (part(0, 2), None, 1, ((0,), 2)), (part(0, 2), None, 4, ((0,), 2)),
            (part(0, 2), 1, 4, ((), 0)),
            # By 0 or by 2 six asks, by 1 five.
            (two, None, 0, ((), 3)), (two, None, 1, ((0,), 6)), (two, None, 4, ((0,), 6)),
            (two, 1, 1, ((0,), 2)), (two, 2, 1, ((0,), 2)), (two, 0, 1, ((0,), 2)),
            # Two are needed for all that stands behind.
            (part(0, 1, part(1), part(2), part(3), mode="any"), None, 0, ((), 2)),
            (part(0, 1, part(1), part(2), part(3), mode="any"), None, 1, ((1,), 3)),
            (part(0, 1, part(1), part(2), part(3), mode="any"), None, 2, ((1, 2), 4)),
            (part(0, 1, part(1), part(2), part(3), mode="any"), None, 3, ((1, 2), 4)),
            (part(0, 1, part(1), part(2), part(3), mode="any"), 3, 1, ((), 0)),
            (part(0, 1, part(1), part(2), part(3), mode="any"), 3, 2, ((1, 2), 1)),
            (part(0, 1, part(3), part(2), part(1), mode="any"), 1, 2, ((2, 3), 1)),
            (part(0, 2, part(1), part(2), part(3, 2), mode="any"), None, 4, ((1, 2, 3), 10)),
            # All four, for what stands behind each of the others.
            (FOUR, None, 4, ((0, 1, 2, 3), 7)),
            (FOUR, None, 3, ((1, 2, 3), 6)),
        ):
            with self.subTest(tree=tree, service=service, many=many):
                self.assertEqual(kinds_of(worst_set(tree, service, many)), kinds_of(wanted))

    def test_the_first_of_the_smallest_sets(self):
        dice = random.Random(96)
        seen = {}
        for _ in range(400):
            tree = some_tree(dice, dice.randint(1, 9)) if seen else FOUR
            service = dice.choice((None, 0, 1, 2, 3)) if seen else None
            for many in range(5):
                told = worst_set(tree, service, many)
                self.assertEqual(told, self.slow(tree, service, many), (tree, service, many))
                seen[len(told[0])] = seen.get(len(told[0]), 0) + 1
        self.assertEqual(sorted(seen), [0, 1, 2, 3, 4])

    def test_against_the_slow_look(self):
        dice = random.Random(97)
        done = 0
        while done < 60:
            tree = some_tree(dice, dice.randint(2, 5), tries=(1, 2))
            service = dice.choice((None, 0, 1, 2, 3))
            asks = {failing: slow_only(tree, FREE, failing, service, 300) for failing in SETS}
            if None not in asks.values():
                done += 1
                for many in range(5):
                    most, _, failing = min((-asks[one], len(one), one) for one in SETS if len(one) <= many)
                    self.assertEqual(worst_set(tree, service, many), (failing, -most))

    def test_one_place_in_trees_of_all(self):
        # The product of the tries on the way to it, and its failing alone brings it.
        dice = random.Random(98)
        done = 0
        while done < 40:
            tree = some_tree(dice, dice.randint(2, 12), modes=("all",))
            for service in range(4):
                ways = [product for other, product in products(tree) if other == service]
                if len(ways) == 1:
                    done += 1
                    self.assertEqual(only(tree, (service,), service)[0], ways[0])
                    self.assertEqual(worst_set(tree, service, 4)[1], ways[0])
                    self.assertLessEqual(len(worst_set(tree, service, 4)[0]), 1)

    def test_large_trees(self):
        for tree in LARGE:
            for service in (None, 1):
                told = [worst_set(tree, service, many) for many in range(5)]
                self.assertEqual([len(failing) <= many for many, (failing, _) in enumerate(told)], [True] * 5)
                self.assertEqual([most for _, most in told], sorted(most for _, most in told))
                for failing, most in told:
                    self.assertEqual(only(tree, failing, service)[0], most)

    def test_wrong_arguments(self):
        refuse_in_order(self, worst_set, (TREE_KIND, SERVICE_KIND, COUNT_KIND))

    def test_calls(self):
        check_calls(self, worst_set, ("tree", "service", "many"), (LARGE[2], 3, 2))


if __name__ == "__main__":
    unittest.main()
