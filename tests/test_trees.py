import itertools
import random
import unittest

from comesback import trees as trees_file
from comesback.errors import NoFails, NoPlan, NoTree, TooMany
from comesback.trees import calls, is_plan, is_tree, ran, services

from tests.model import kinds_of, strange_values
from tests.refusals import check_calls, refuse_in_order
from tests.slow_trees import PLANS, chain, slow_calls, slow_ran, some_tree

LEAF = (0, 1, "all", ())
FREE = (None, False)


def wide(*parts, service=0, tries=1, mode="all"):
    return (service, tries, mode, parts)


# Three parts with three parts each are thirteen calls, and one less are twelve.
THREE = wide(LEAF, LEAF, LEAF)
TWELVE = wide(THREE, THREE, wide(LEAF, LEAF))
THIRTEEN = wide(THREE, THREE, THREE)
NO_TREES = tuple(strange_values()) + (
    list(LEAF), LEAF[:3], LEAF + ((),), (-1,) + LEAF[1:], (4,) + LEAF[1:], (True,) + LEAF[1:], (None,) + LEAF[1:],
    ("0",) + LEAF[1:], (0, 0, "all", ()), (0, 4, "all", ()), (0, True, "all", ()), (0, None, "all", ()),
    (0, 1, "both", ()), (0, 1, "All", ()), (0, 1, "", ()), (0, 1, "a", ()), (0, 1, None, ()), (0, 1, True, ()),
    (0, 1, ("all",), ()), (0, 1, ["all"], ()), (0, 1, {}, ()), (0, 1, "all", []), (0, 1, "all", None),
    (0, 1, "all", {}), (0, 1, "all", LEAF), (0, 1, "all", "abc"), (0, 1, "all", ""), (0, 1, "all", (None,)),
    (0, 1, "all", ((),)), wide(LEAF, LEAF, LEAF, LEAF), wide(list(LEAF)), wide([LEAF]), wide(LEAF, None),
    wide(LEAF, LEAF, True), (0, 1, "all", [LEAF]), wide(wide(wide(list(LEAF)))), wide(wide((0, 1, "all", [LEAF]))),
    wide(wide((0, 1, "all", [LEAF]))), wide(wide(wide((True, 1, "all", ())))), chain(5), THIRTEEN, wide(chain(4)),
    (0, 1, b"all", ()), (10 ** 12 - 1, 1, "all", ()), (0, -10 ** 12 + 1, "all", ()),
)
NO_PLANS = tuple(strange_values()) + (
    [None, False], (None,), (None, False, False), (-1, False), (5, False), (True, False), (False, False),
    (False, True), ("1", False), ((), False), ([], True), ({}, True), (None, None), (None, 0), (None, 1), (0, 0),
    (0, 1), (1, "True"), (1, ()), (False, None), (10 ** 12 - 1, True),
)
NO_FAILS = tuple(thing for thing in strange_values() if thing != ()) + (
    [0], [], (0, 0), (1, 0), (-1,), (-1, 0), (0, -1), (True,), (False,), (0, True), (False, 1), (0, 1, None), ("0",),
    (0, (1,)), ((0,),), (0, 2, 1), (3, 3), (0, 1, 1), (0, [1]), {0: 1}, ("",), (0, {}), (None, 0), (-10 ** 12 + 1,),
)
TREE_KIND = (TWELVE, (NoTree, NO_TREES))
PLAN_KIND = ((2, True), (NoPlan, NO_PLANS))
FAILS_KIND = ((0, 2), (NoFails, NO_FAILS))


class IsTree(unittest.TestCase):
    def told(self, wanted, thing):
        self.assertIs(is_tree(thing), wanted, str(thing)[:200])

    def test_each_part_in_its_range(self):
        for service, tries, mode in itertools.product((0, 1, 2, 3), (1, 2, 3), ("all", "any")):
            for parts in ((), (LEAF,), (LEAF, LEAF), (LEAF, LEAF, LEAF)):
                self.told(True, (service, tries, mode, parts))
                self.told(True, wide(LEAF, wide((service, tries, mode, parts))))

    def test_each_part_out_of_its_range(self):
        for service, tries, mode in ((-1, 1, "all"), (4, 1, "all"), (0, 0, "all"), (0, 4, "all"), (0, 1, "none")):
            wrong = (service, tries, mode, ())
            self.told(False, wrong)
            self.told(False, wide(LEAF, wrong))
            self.told(False, wide(wide(LEAF, wide(wrong), LEAF)))

    def test_twelve_calls_and_thirteen(self):
        self.told(True, TWELVE)
        self.told(False, THIRTEEN)
        self.told(True, wide(wide(chain(2), chain(2), LEAF), wide(chain(2), LEAF), LEAF))
        self.told(False, wide(wide(chain(2), chain(2), LEAF), wide(chain(2), LEAF), chain(2)))

    def test_four_calls_deep_and_five(self):
        for many in range(1, 7):
            self.told(many <= 4, chain(many))
            self.told(many <= 4, chain(many, 3, 3, "any"))
            self.told(many <= 3, wide(LEAF, LEAF, chain(many)))
            self.told(many <= 2, wide(wide(LEAF, chain(many)), LEAF))
        self.told(False, chain(30))

    def test_three_parts_and_four(self):
        for many in range(6):
            parts = (LEAF,) * many
            self.told(many <= 3, (0, 1, "any", parts))
            self.told(many <= 3, wide((0, 1, "any", parts)))
            self.told(many <= 3, wide(LEAF, wide((0, 1, "any", parts))))

    def test_lists_for_tuples_at_any_depth(self):
        made = LEAF
        for _ in range(4):
            self.told(True, made)
            service, tries, mode, parts = made
            for wrong in (list(made), (service, tries, mode, list(parts)), tuple([service, tries, mode, [LEAF]])):
                self.told(False, wrong)
                inner = wrong
                for _ in range(3):
                    inner = wide(LEAF, inner)
                    self.told(False, inner)
            made = wide(made)

    def test_values_that_are_no_tree(self):
        for thing in NO_TREES + (TooMany(3), NoTree, is_tree, LEAF.count):
            self.told(False, thing)
            self.told(False, wide(thing))
            self.told(False, wide(LEAF, thing))
            self.told(thing in (0, 1) and not isinstance(thing, bool), (thing,) + LEAF[1:])
            self.told(thing == 1 and not isinstance(thing, bool), (0, thing, "all", ()))
            self.told(False, (0, 1, thing, ()))
            if thing != ():
                self.told(False, (0, 1, "all", thing))

    def test_any_trees(self):
        dice = random.Random(80)
        for _ in range(500):
            tree = some_tree(dice, dice.randint(1, 12))
            self.told(True, tree)

    def test_calls(self):
        check_calls(self, is_tree, ("thing",), (TWELVE,))
        check_calls(self, is_tree, ("thing",), ([[TWELVE], {1: [2]}],))


class IsPlan(unittest.TestCase):
    def test_plans(self):
        for plan in PLANS:
            self.assertIs(is_plan(plan), True)

    def test_budgets(self):
        for budget in range(-3, 9):
            for keeps in (True, False):
                self.assertIs(is_plan((budget, keeps)), 0 <= budget <= 4)

    def test_values_that_are_no_plan(self):
        for thing in NO_PLANS + (TooMany(3), NoPlan, is_plan):
            self.assertIs(is_plan(thing), False, thing)
            self.assertIs(is_plan((1, thing)), isinstance(thing, bool))
            if not (thing is None or thing == 0 or thing == 1) or isinstance(thing, bool):
                self.assertIs(is_plan((thing, True)), False)

    def test_calls(self):
        check_calls(self, is_plan, ("thing",), ((3, True),))
        check_calls(self, is_plan, ("thing",), ([3, {1: [True]}],))


class CallsAndServices(unittest.TestCase):
    def test_calls(self):
        for wanted, tree in ((1, LEAF), (2, wide(LEAF)), (4, chain(4)), (4, THREE), (12, TWELVE)):
            self.assertEqual(kinds_of(calls(tree)), kinds_of(wanted))

    def test_services(self):
        for wanted, tree in (
            ((0,), LEAF), ((3,), (3, 2, "any", ())), ((0,), TWELVE), ((1, 2), wide((2, 1, "all", ()), service=1)),
            ((1, 2), wide((1, 1, "all", ()), service=2)), ((0, 3), wide(wide(wide(LEAF, service=3)), service=3)),
            ((0, 1, 2, 3), wide((3, 1, "all", ()), (1, 1, "all", ((2, 1, "all", ()),)), (3, 1, "all", ()))),
            ((2,), wide((2, 1, "all", ()), (2, 1, "all", ()), service=2)),
        ):
            self.assertEqual(kinds_of(services(tree)), kinds_of(wanted))

    def test_any_trees(self):
        def all_of(tree):
            return [tree[0]] + [service for part in tree[3] for service in all_of(part)]

        dice = random.Random(81)
        for _ in range(300):
            tree = some_tree(dice, 12)
            self.assertEqual(calls(tree), slow_calls(tree))
            self.assertEqual(calls(tree), len(all_of(tree)))
            self.assertEqual(services(tree), tuple(sorted(set(all_of(tree)))))

    def test_wrong_arguments(self):
        for call in (calls, services):
            refuse_in_order(self, call, (TREE_KIND,))

    def test_asked_by_name_and_again(self):
        for call in (calls, services):
            check_calls(self, call, ("tree",), (TWELVE,))


# Each with a tree, a plan, fails and what ran tells, by the words of [61] and [62].
BY_HAND = (
    # One call without parts: one decision for each attempt.
    (LEAF, FREE, (), (True, (0,))),
    (LEAF, FREE, (0,), (False, (0,))),
    (LEAF, FREE, (1, 2, 99), (True, (0,))),
    ((2, 3, "all", ()), FREE, (0,), (True, (2, 2))),
    ((2, 3, "all", ()), FREE, (1,), (True, (2,))),
    ((2, 3, "all", ()), FREE, (0, 1), (True, (2, 2, 2))),
    ((2, 3, "all", ()), FREE, (0, 1, 2), (False, (2, 2, 2))),
    ((2, 2, "all", ()), FREE, (0, 1, 2), (False, (2, 2))),
    # With "any" and no parts nothing fails ahead of the decision.
    ((3, 2, "any", ()), FREE, (), (True, (3,))),
    ((3, 2, "any", ()), FREE, (0,), (True, (3, 3))),
    # "all": the parts in order up to the first that fails, and the call decides behind them.
    (wide((1, 1, "all", ()), (2, 1, "all", ())), FREE, (), (True, (0, 1, 2))),
    (wide((1, 1, "all", ()), (2, 1, "all", ())), FREE, (0,), (False, (0, 1))),
    (wide((1, 1, "all", ()), (2, 1, "all", ())), FREE, (1,), (False, (0, 1, 2))),
    (wide((1, 1, "all", ()), (2, 1, "all", ())), FREE, (2,), (False, (0, 1, 2))),
    (wide((1, 1, "all", ()), (2, 1, "all", ())), FREE, (3,), (True, (0, 1, 2))),
    (wide((1, 1, "all", ()), (2, 1, "all", ()), tries=2), FREE, (0,), (True, (0, 1, 0, 1, 2))),
    (wide((1, 1, "all", ()), (2, 1, "all", ()), tries=2), FREE, (1,), (True, (0, 1, 2, 0, 1, 2))),
    (wide((1, 1, "all", ()), (2, 1, "all", ()), tries=2), FREE, (2,), (True, (0, 1, 2, 0, 1, 2))),
    (wide((1, 1, "all", ()), (2, 1, "all", ()), tries=2), FREE, (2, 5), (False, (0, 1, 2, 0, 1, 2))),
    (wide((1, 1, "all", ()), (2, 1, "all", ()), tries=2), FREE, (2, 6), (True, (0, 1, 2, 0, 1, 2))),
    (wide((1, 1, "all", ()), (2, 1, "all", ()), tries=2), FREE, (0, 1), (False, (0, 1, 0, 1))),
    (wide((1, 2, "all", ()), (2, 1, "all", ()), tries=2), FREE, (0, 2), (True, (0, 1, 1, 2, 0, 1, 2))),
    (wide((1, 2, "all", ()), (2, 1, "all", ()), tries=2), FREE, (0, 1, 2, 3), (False, (0, 1, 1, 0, 1, 1))),
    # "any": the parts in order up to the first that answers.
    (wide((1, 1, "all", ()), (2, 1, "all", ()), mode="any"), FREE, (), (True, (0, 1))),
    (wide((1, 1, "all", ()), (2, 1, "all", ()), mode="any"), FREE, (0,), (True, (0, 1, 2))),
    (wide((1, 1, "all", ()), (2, 1, "all", ()), mode="any"), FREE, (1,), (False, (0, 1))),
    (wide((1, 1, "all", ()), (2, 1, "all", ()), mode="any"), FREE, (0, 1), (False, (0, 1, 2))),
    (wide((1, 1, "all", ()), (2, 1, "all", ()), mode="any"), FREE, (0, 2), (False, (0, 1, 2))),
    (wide((1, 1, "all", ()), (2, 1, "all", ()), mode="any", tries=2), FREE, (0, 1), (True, (0, 1, 2, 0, 1))),
    (wide((1, 1, "all", ()), (2, 1, "all", ()), mode="any", tries=2), FREE, (0, 1, 3),
     (False, (0, 1, 2, 0, 1))),
    (wide((1, 1, "all", ()), (2, 1, "all", ()), mode="any", tries=2), FREE, (0, 1, 2, 4),
     (False, (0, 1, 2, 0, 1, 2))),
    (wide((1, 3, "all", ()), (2, 1, "all", ()), mode="any"), FREE, (0, 1, 2), (True, (0, 1, 1, 1, 2))),
    # Decisions are counted through the whole tree: two of them within, then that of the first call.
    (wide(wide((3, 1, "all", ()), service=2), (1, 1, "all", ())), FREE, (0,), (False, (0, 2, 3))),
    (wide(wide((3, 1, "all", ()), service=2), (1, 1, "all", ())), FREE, (1,), (False, (0, 2, 3))),
    (wide(wide((3, 1, "all", ()), service=2), (1, 1, "all", ())), FREE, (2,), (False, (0, 2, 3, 1))),
    (wide(wide((3, 1, "all", ()), service=2), (1, 1, "all", ())), FREE, (3,), (False, (0, 2, 3, 1))),
    (wide(wide((3, 2, "all", ()), service=2, tries=2), (1, 1, "all", ())), FREE, (0, 2),
     (True, (0, 2, 3, 3, 2, 3, 1))),
    # A failed attempt without a decision counts none: the third one here is that of service 2.
    (wide(wide((3, 1, "all", ()), service=2, tries=3), (1, 1, "all", ())), FREE, (0, 1, 2),
     (False, (0, 2, 3, 2, 3, 2, 3))),
    (wide(wide((3, 1, "all", ()), service=2, tries=3), (1, 1, "all", ())), FREE, (0, 2),
     (True, (0, 2, 3, 2, 3, 2, 3, 1))),
    # A service at several places, with other tries and parts.
    (wide((1, 2, "all", ()), (1, 1, "any", ((2, 1, "all", ()),))), FREE, (0, 3), (False, (0, 1, 1, 1, 2))),
    # A budget of attempts behind first ones, used up anywhere in the tree.
    ((0, 3, "all", ()), (0, False), (0,), (False, (0,))),
    ((0, 3, "all", ()), (1, False), (0,), (True, (0, 0))),
    ((0, 3, "all", ()), (1, False), (0, 1), (False, (0, 0))),
    ((0, 3, "all", ()), (2, False), (0, 1, 2), (False, (0, 0, 0))),
    ((0, 3, "all", ()), (4, False), (0, 1, 2), (False, (0, 0, 0))),
    ((0, 1, "all", ()), (4, False), (0,), (False, (0,))),
    (wide((1, 2, "all", ()), (2, 2, "all", ())), (1, False), (0, 2), (False, (0, 1, 1, 2))),
    (wide((1, 2, "all", ()), (2, 2, "all", ())), (2, False), (0, 2), (True, (0, 1, 1, 2, 2))),
    (wide((1, 2, "all", ()), (2, 2, "all", ()), tries=2), (1, False), (0, 2), (False, (0, 1, 1, 2))),
    (wide((1, 2, "all", ()), tries=3), (1, False), (0, 1), (False, (0, 1, 1))),
    (wide((1, 2, "all", ()), tries=3), (2, False), (0, 1), (True, (0, 1, 1, 0, 1))),
    (wide((1, 2, "all", ()), tries=3), (2, False), (0, 1, 2), (False, (0, 1, 1, 0, 1))),
    (wide((1, 3, "all", ()), (2, 1, "all", ()), mode="any"), (0, False), (0,), (True, (0, 1, 2))),
    # Kept answers: a service that has answered is not asked again, and decides nothing.
    (wide((1, 1, "all", ()), (1, 1, "all", ())), (None, True), (), (True, (0, 1))),
    (wide((1, 1, "all", ()), (1, 1, "all", ())), (None, False), (), (True, (0, 1, 1))),
    (wide((1, 1, "all", ()), (1, 1, "all", ())), (None, True), (1,), (False, (0, 1))),
    (wide((1, 1, "all", ()), (1, 1, "all", ())), (None, True), (2,), (True, (0, 1))),
    (wide((1, 2, "all", ()), (1, 1, "all", ()), tries=2), (None, True), (0, 2), (True, (0, 1, 1, 0))),
    # With its parts: those of a kept service are not asked either.
    (wide((1, 1, "all", ()), (1, 1, "all", ((2, 1, "all", ()),))), (None, True), (), (True, (0, 1))),
    (wide((1, 1, "all", ((2, 1, "all", ()),)), (2, 1, "all", ())), (None, True), (), (True, (0, 1, 2))),
    # Also if the attempt that wanted it failed later.
    (wide((1, 1, "all", ()), (2, 1, "all", ()), tries=2), (None, True), (1,), (True, (0, 1, 2, 0, 2))),
    (wide((1, 1, "all", ()), (2, 1, "all", ()), tries=2), (None, True), (1, 2), (False, (0, 1, 2, 0, 2))),
    (wide((1, 1, "all", ()), (2, 1, "all", ()), tries=2), (None, True), (2,), (True, (0, 1, 2, 0))),
    (wide((1, 1, "all", ()), (2, 1, "all", ()), tries=2), (None, True), (2, 3), (False, (0, 1, 2, 0))),
    # What has only failed is not kept.
    (wide((1, 1, "all", ()), (1, 1, "all", ()), mode="any"), (None, True), (0,), (True, (0, 1, 1))),
    # Looked at as the call begins, not between its attempts: it answers within itself meanwhile.
    (wide((0, 1, "all", ()), tries=3), (None, True), (1,), (True, (0, 0, 0))),
    (wide((0, 1, "all", ()), tries=3), (None, True), (1, 2), (True, (0, 0, 0, 0))),
    (wide((0, 1, "all", ()), tries=3), (None, True), (1, 2, 3), (False, (0, 0, 0, 0))),
    (wide((0, 1, "all", ()), tries=3), (None, False), (1, 3, 5), (False, (0, 0, 0, 0, 0, 0))),
    (wide((1, 1, "all", ()), wide((1, 1, "all", ()), service=2), tries=2), (None, True), (1, 2),
     (False, (0, 1, 2, 0, 2))),
    # Both together: a kept answer takes nothing from the budget.
    (wide((1, 2, "all", ()), (2, 2, "all", ()), (1, 3, "all", ()), tries=2), (2, True), (0, 2),
     (True, (0, 1, 1, 2, 2))),
    (wide((1, 2, "all", ()), (2, 1, "all", ()), tries=3), (1, True), (1,), (True, (0, 1, 2, 0, 2))),
    (wide((1, 2, "all", ()), (2, 1, "all", ()), tries=3), (1, True), (1, 2), (False, (0, 1, 2, 0, 2))),
    (wide((1, 2, "all", ()), (2, 1, "all", ()), tries=3), (0, True), (1,), (False, (0, 1, 2))),
)


class Ran(unittest.TestCase):
    def tells(self, tree, plan, fails, wanted):
        told = ran(tree, plan, fails)
        self.assertEqual(kinds_of(told), kinds_of(wanted), (tree, plan, fails))

    def test_by_hand(self):
        for tree, plan, fails, wanted in BY_HAND:
            with self.subTest(tree=tree, plan=plan, fails=fails):
                self.tells(tree, plan, fails, wanted)

    def test_the_slow_model_tells_so(self):
        for tree, plan, fails, wanted in BY_HAND:
            with self.subTest(tree=tree, plan=plan, fails=fails):
                self.assertEqual(slow_ran(tree, plan, fails), wanted)

    def test_as_the_slow_model_tells(self):
        dice = random.Random(82)
        seen = {True: 0, False: 0}
        for _ in range(3000):
            tree = some_tree(dice, dice.randint(1, 12), of=dice.choice(((0, 1), (0, 1, 2, 3), (2,))))
            plan = dice.choice(PLANS)
            chance = dice.choice((0.1, 0.3, 0.6, 0.9))
            fails = tuple(number for number in range(40) if dice.random() < chance)
            wanted = slow_ran(tree, plan, fails)
            seen[wanted[0]] += 1
            self.tells(tree, plan, fails, wanted)
        self.assertGreater(min(seen.values()), 500, seen)

    def test_fails_beyond_the_decisions_do_not_matter(self):
        for tree, plan, fails, wanted in BY_HAND:
            self.tells(tree, plan, fails + (200, 10 ** 12 - 1, 10 ** 40), wanted)

    def test_many_fails(self):
        tree = wide(THREE, THREE, wide((1, 3, "any", ()), (2, 3, "all", ()), tries=3), tries=3)
        fails = tuple(range(100000))
        self.tells(tree, FREE, fails, slow_ran(tree, FREE, frozenset(fails)))
        self.tells(chain(4, 1, 3), FREE, fails, (False, slow_ran(chain(4, 1, 3), FREE, frozenset(fails))[1]))
        self.assertEqual(len(ran(chain(4, 1, 3), FREE, fails)[1]), 120)

    def test_all_answer(self):
        dice = random.Random(83)
        for _ in range(200):
            tree = some_tree(dice, 12, modes=("all",))
            answered, asks = ran(tree, dice.choice(PLANS[::2]), ())
            self.assertIs(answered, True)
            self.assertEqual(len(asks), calls(tree))

    def test_with_no_budget_each_call_is_attempted_once(self):
        dice = random.Random(84)
        for _ in range(300):
            tree = some_tree(dice, 12)
            fails = tuple(number for number in range(12) if dice.random() < 0.4)
            self.assertLessEqual(len(ran(tree, (0, False), fails)[1]), calls(tree))

    def test_wrong_arguments(self):
        refuse_in_order(self, ran, (TREE_KIND, PLAN_KIND, FAILS_KIND))

    def test_calls(self):
        check_calls(self, ran, ("tree", "plan", "fails"), BY_HAND[-2][:3])

    def test_they_are_defined_in_their_file(self):
        for call in (is_tree, is_plan, calls, services, ran):
            self.assertEqual(call.__module__, "comesback.trees")
            self.assertIs(getattr(trees_file, call.__name__), call)


if __name__ == "__main__":
    unittest.main()
