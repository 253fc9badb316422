import random
import unittest

from comesback import budgets as budgets_file
from comesback.budgets import greatest, needed
from comesback.errors import NoCount, NoPlan
from comesback.failing import only
from comesback.trees import calls, ran

from tests.model import kinds_of
from tests.refusals import check_calls, refuse_in_order
from tests.slow_trees import (
    ALL, PLANS, chain, products, slow_calls, slow_count, slow_fails, slow_only, slow_ran, some_tree,
)
from tests.test_failing import LARGE, LEAF, SERVICE_KIND, part
from tests.test_trees import PLAN_KIND, TREE_KIND

NO_KEEPS = (None, 0, 1, "", "True", (), (True,), [], [True], {}, (2, True), 10 ** 12 - 1)
NO_MOST = (True, False, None, -1, 1000, 10 ** 12 - 1, -10 ** 12 + 1, "", "5", (), (5,), [], [5], {})
KEEPS_KIND = (True, (NoPlan, NO_KEEPS))
MOST_KIND = (5, (NoCount, NO_MOST))
TWO = part(0, 2, part(1, 2), part(2, 2))
SAME = part(0, 3, part(1, 2), part(1, 2))
# The first call, three that may all fail, and one more that stands within the last of them.
ANY = part(0, 2, part(1, 2), part(2, 1), part(3, 2, part(1, 2)), mode="any")

# Each with a tree, a plan, a service and the greatest number of asks; by hand.
BY_HAND = (
    (LEAF, (None, False), None, 1),
    (LEAF, (0, True), None, 1),
    (part(0, 3), (None, False), None, 3),
    (part(0, 3), (0, False), None, 1),
    (part(0, 3), (1, False), None, 2),
    (part(0, 3), (2, False), None, 3),
    (part(0, 3), (4, True), None, 3),
    (part(0, 3), (4, True), 0, 3),
    (part(0, 3), (4, True), 1, 0),
    # Both parts twice in both attempts: 2 + 4 + 4.
    (TWO, (None, False), None, 10),
    (TWO, (None, False), 2, 4),
    (TWO, (0, False), None, 3),
    # A further attempt of the first call has three asks, one of a part has one.
    (TWO, (1, False), None, 6),
    (TWO, (2, False), None, 7),
    (TWO, (3, False), None, 8),
    (TWO, (4, False), None, 9),
    (TWO, (4, False), 1, 4),
    (TWO, (1, False), 1, 2),
    # Kept: in the second attempt what has answered is not asked again.
    (TWO, (0, True), None, 3),
    (TWO, (1, True), None, 4),
    # 1 fails once and answers, 2 fails twice, and in the second attempt once more, or twice.
    (TWO, (None, True), None, 8),
    (TWO, (None, True), 2, 4),
    (TWO, (None, True), 1, 4),
    (SAME, (None, False), None, 3 + 6 + 6),
    (SAME, (0, True), None, 2),
    (SAME, (0, True), 1, 1),
    (SAME, (0, False), 1, 2),
    # Once service 1 has answered it is asked no more, so it fails, up to its last attempt.
    (SAME, (None, True), 1, 6),
    (SAME, (None, True), None, 9),
    (ANY, (0, False), None, 5),
    (ANY, (0, True), None, 5),
)


class Greatest(unittest.TestCase):
    def brought(self, tree, plan, service, told):
        most, fails = told
        self.assertEqual([type(told), type(most), type(fails)], [tuple, int, tuple])
        self.assertTrue(all(type(one) is int for one in fails))
        self.assertEqual(fails, tuple(sorted(set(fails))))
        self.assertEqual(slow_count(slow_ran(tree, plan, fails)[1], service), most)
        self.assertEqual(slow_count(ran(tree, plan, fails)[1], service), most)
        self.assertEqual(len(slow_fails(tree, plan, fails)), len(fails))

    def test_by_hand(self):
        for tree, plan, service, wanted in BY_HAND:
            with self.subTest(tree=tree, plan=plan, service=service):
                told = greatest(tree, plan, service)
                self.assertEqual(told[0], wanted)
                self.brought(tree, plan, service, told)

    def test_the_slow_look_tells_so(self):
        for tree, plan, service, wanted in BY_HAND:
            with self.subTest(tree=tree, plan=plan, service=service):
                self.assertEqual(slow_only(tree, plan, ALL, service), wanted)

    def test_against_the_slow_look(self):
        dice = random.Random(100)
        seen = dict.fromkeys(PLANS, 0)
        while min(seen.values()) < 40:
            tree = some_tree(dice, dice.randint(2, 7), of=dice.choice(((0, 1), (0, 1, 2), (0, 1, 2, 3))))
            plan = dice.choice(PLANS)
            service = dice.choice((None, None, 0, 1, 2, 3))
            wanted = slow_only(tree, plan, ALL, service, 1500)
            if wanted is not None:
                told = greatest(tree, plan, service)
                self.assertEqual(told[0], wanted, (tree, plan, service))
                self.brought(tree, plan, service, told)
                seen[plan] += 1

    def test_each_plan_and_each_service(self):
        for tree in (TWO, SAME, part(0, 2, part(1, 2, part(0)), part(1, 1, part(2)), mode="any")):
            for plan in PLANS:
                for service in (None, 0, 1, 2, 3):
                    told = greatest(tree, plan, service)
                    self.assertEqual(told[0], slow_only(tree, plan, ALL, service), (tree, plan, service))
                    self.brought(tree, plan, service, told)

    def test_the_sum_of_the_products_of_tries(self):
        dice = random.Random(101)
        for tree in LARGE + tuple(some_tree(dice, 12) for _ in range(150)):
            for service in (None, 0, 1, 2, 3):
                wanted = sum(product for other, product in products(tree) if service in (None, other))
                told = greatest(tree, (None, False), service)
                self.assertEqual(told[0], wanted)
                self.brought(tree, (None, False), service, told)
                self.assertEqual(only(tree, ALL, service)[0], wanted)

    def test_with_budget_0_each_call_is_attempted_once(self):
        dice = random.Random(102)
        for _ in range(150):
            tree = some_tree(dice, 12)
            self.assertEqual(greatest(tree, (0, False), None)[0], slow_calls(tree))
            for service in range(4):
                wanted = sum(other == service for other, _ in products(tree))
                self.assertEqual(greatest(tree, (0, False), service)[0], wanted)

    def test_a_greater_budget_never_has_a_smaller_number(self):
        dice = random.Random(103)
        for tree in LARGE + tuple(some_tree(dice, 12) for _ in range(40)):
            for keeps in (False, True):
                for service in (None, 1):
                    told = [greatest(tree, (budget, keeps), service) for budget in (0, 1, 2, 3, 4, None)]
                    for budget, one in zip((0, 1, 2, 3, 4, None), told):
                        self.brought(tree, (budget, keeps), service, one)
                    self.assertEqual([most for most, _ in told], sorted(most for most, _ in told))

    def test_no_fails_bring_more(self):
        dice = random.Random(104)
        trees = LARGE + (part(0, 3, *[chain(3, 1, 3)] * 3), part(0, 3, *[chain(3, 2, 3, "any")] * 3, mode="any"))
        for tree in trees:
            for plan in PLANS:
                told = greatest(tree, plan, None)
                self.brought(tree, plan, None, told)
                for _ in range(40):
                    chance = dice.choice((0.3, 0.6, 0.9))
                    fails = {number for number in range(300) if dice.random() < chance}
                    self.assertLessEqual(len(slow_ran(tree, plan, fails)[1]), told[0])
                # Nor others that are near to these.
                for _ in range(40):
                    fails = set(told[1]) ^ {dice.randrange(max(told[1]) + 3 if told[1] else 3)}
                    self.assertLessEqual(len(slow_ran(tree, plan, fails)[1]), told[0])

    def test_wrong_arguments(self):
        refuse_in_order(self, greatest, (TREE_KIND, PLAN_KIND, SERVICE_KIND))

    def test_calls(self):
        check_calls(self, greatest, ("tree", "plan", "service"), (LARGE[0], (3, True), None))
        check_calls(self, greatest, ("tree", "plan", "service"), (LARGE[1], (None, False), 2))

    def test_they_are_defined_in_their_file(self):
        for call in (greatest, needed):
            self.assertEqual(call.__module__, "comesback.budgets")
            self.assertIs(getattr(budgets_file, call.__name__), call)


class Needed(unittest.TestCase):
    def test_by_hand(self):
        # By the numbers of TWO without kept answers: 3, 6, 7, 8, 9; with them 3, 4, 5, 6, 7.
        for keeps, most, wanted in (
            (False, 0, None), (False, 2, None), (False, 3, 0), (False, 4, 0), (False, 5, 0), (False, 6, 1),
            (False, 7, 2), (False, 8, 3), (False, 9, 4), (False, 10, 4), (False, 999, 4),
            (True, 2, None), (True, 3, 0),
        ):
            with self.subTest(keeps=keeps, most=most):
                self.assertEqual(kinds_of(needed(TWO, keeps, None, most)), kinds_of(wanted))
        self.assertEqual(needed(LEAF, False, None, 0), None)
        self.assertEqual(needed(LEAF, False, None, 1), 4)
        self.assertEqual(needed(LEAF, True, 3, 0), 4)
        self.assertEqual(needed(part(0, 3), True, None, 2), 1)
        self.assertEqual(needed(part(0, 3), True, 0, 1), 0)
        self.assertEqual(needed(part(0, 3), True, 0, 3), 4)

    def test_as_greatest_tells(self):
        dice = random.Random(105)
        seen = {}
        for tree in LARGE + tuple(some_tree(dice, dice.randint(1, 12)) for _ in range(60)):
            for keeps in (False, True):
                service = dice.choice((None, 0, 1, 2, 3))
                numbers = [greatest(tree, (budget, keeps), service)[0] for budget in range(5)]
                for most in sorted({0, 1, 999} | {number + more for number in numbers for more in (-1, 0, 1)}):
                    if most >= 0:
                        fitting = [budget for budget in range(5) if numbers[budget] <= most]
                        wanted = max(fitting, default=None)
                        seen[wanted] = seen.get(wanted, 0) + 1
                        self.assertEqual(needed(tree, keeps, service, most), wanted)
        self.assertEqual(set(seen), {None, 0, 1, 2, 3, 4})
        self.assertGreater(min(seen.values()), 10, seen)

    def test_from_0_to_999(self):
        for most in (0, 1, 998, 999):
            needed(LEAF, True, None, most)
        for most in (-1, 1000):
            with self.assertRaises(NoCount):
                needed(LEAF, True, None, most)

    def test_wrong_arguments(self):
        refuse_in_order(self, needed, (TREE_KIND, KEEPS_KIND, SERVICE_KIND, MOST_KIND))

    def test_calls(self):
        check_calls(self, needed, ("tree", "keeps", "service", "most"), (LARGE[3], False, None, 20))
        self.assertEqual(calls(LARGE[3]), 12)


if __name__ == "__main__":
    unittest.main()
