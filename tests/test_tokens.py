import random
import unittest

from comesback import tokens as tokens_file
from comesback.errors import NoMost, TooMany
from comesback.rows import rows
from comesback.tokens import good_tokens

from tests.model import kinds_of, some_plain_setting
from tests.refusals import MOST_KIND, SETTING_KIND, STEADY_KIND, check_calls, refuse_in_order
from tests.slow import slow_first, slow_reach
from tests.slow_loads import slow_good_tokens

ALL = (None, 0, 1, 2, 3, 4)
# Each with a setting, a steady inflow, most, and which numbers of tokens help.
SEVERAL = (
    ((2, 5, 3, 2, 1, "oldest", True, 1, None), 2, 2, ALL),
    ((1, 2, 1, 2, 1, "oldest", True, None, (3, 1)), 1, 4, ()),
    ((1, 4, 1, 2, 2, "oldest", False, None, (3, 3)), 1, 4, (0,)),
    ((3, 2, 1, 3, 2, "oldest", False, None, (1, 2)), 1, 3, (0, 1)),
    ((1, 2, 1, 2, 2, "newest", True, 0, (1, 1)), 2, 5, (0, 1, 2, 3, 4)),
    ((1, 4, 2, 2, 2, "newest", False, 3, None), 2, 2, (0, 1, 2)),
    ((1, 4, 2, 2, 1, "oldest", True, None, (3, 2)), 2, 3, (None,)),
    ((1, 2, 4, 2, 2, "newest", True, 1, (3, 3)), 3, 6, (None, 1, 2, 3, 4)),
    ((2, 4, 3, 2, 1, "newest", False, 0, (2, 1)), 3, 3, (None, 0, 1, 3)),
    ((2, 4, 4, 2, 1, "newest", True, 2, (3, 3)), 3, 4, (None, 0, 2, 3, 4)),
    ((2, 3, 1, 3, 1, "oldest", True, None, (2, 2)), 2, 3, (1, 2, 3, 4)),
    ((2, 4, 1, 2, 1, "oldest", True, None, None), 1, 3, (0,)),
)
# With four tokens alone, and with no limit alone, there are more than 2,000 states.
LAST_ALONE = ((3, 4, 4, 2, 3, "oldest", True, None, (1, 3)), 3, 5)
FIRST_ALONE = ((2, 2, 3, 3, 3, "oldest", True, None, None), 2, 3)


def with_tokens(setting, tokens):
    return setting[:7] + (tokens,) + setting[8:]


class GoodTokens(unittest.TestCase):
    def test_several(self):
        for setting, steady, most, wanted in SEVERAL:
            with self.subTest(setting=setting, steady=steady, most=most):
                told = good_tokens(setting, steady, most)
                self.assertEqual(kinds_of(told), kinds_of(wanted))

    def test_the_slow_model_tells_so(self):
        for setting, steady, most, wanted in SEVERAL:
            with self.subTest(setting=setting, steady=steady, most=most):
                self.assertEqual(slow_good_tokens(setting, steady, most), wanted)

    def test_the_tokens_of_the_setting_do_not_matter(self):
        for setting, steady, most, wanted in SEVERAL:
            for tokens in ALL:
                self.assertEqual(good_tokens(with_tokens(setting, tokens), steady, most), wanted)

    def test_as_rows_tells_of_each(self):
        dice = random.Random(60)
        seen = {}
        while len(seen) < 9:
            setting = some_plain_setting(dice)
            steady = dice.randint(1, 3)
            most = min(9, steady + dice.randint(0, 3))
            if dice.random() < 0.7:
                setting = (1, dice.randint(2, 4), dice.randint(1, 2), 2, dice.randint(1, 2)) + setting[5:]
            try:
                told = {tokens: rows(with_tokens(setting, tokens), steady, most)[0] for tokens in (4, None, 3, 2, 1, 0)}
            except TooMany:
                continue
            wanted = tuple(tokens for tokens in ALL if told[tokens] == "always")
            self.assertEqual(good_tokens(setting, steady, most), wanted)
            seen[wanted] = True

    def test_none_helps_where_work_is_enough(self):
        dice = random.Random(61)
        done = 0
        while done < 25:
            setting = some_plain_setting(dice)
            steady = dice.randint(1, 2)
            most = dice.randint(steady, 4)
            if setting[0] <= steady or setting[1] < setting[0] or setting[4] > 2:
                continue
            try:
                told = good_tokens(setting, steady, most)
            except TooMany:
                continue
            self.assertIn(0, told)
            if setting[8] is None and (setting[5] == "newest" or not setting[6]) or setting[3] == 1:
                self.assertEqual(told, ALL)
                done += 1

    def test_too_many_for_one_alone(self):
        for (setting, steady, most), alone in ((LAST_ALONE, 4), (FIRST_ALONE, None)):
            for tokens in ALL:
                one = with_tokens(setting, tokens)
                self.assertEqual(slow_reach(one, slow_first(one), most, 2000) is None, tokens == alone)
                with self.assertRaises(TooMany) as caught:
                    good_tokens(one, steady, most)
                self.assertEqual(caught.exception.limit, 2000)

    def test_wrong_arguments(self):
        refuse_in_order(self, good_tokens, (SETTING_KIND, STEADY_KIND, MOST_KIND))
        for steady in range(1, 10):
            for most in range(0, steady):
                with self.assertRaises(NoMost):
                    good_tokens(SEVERAL[0][0], steady, most)
        with self.assertRaises(NoMost):
            good_tokens(LAST_ALONE[0], 3, 2)

    def test_most_may_be_the_inflow(self):
        setting = (1, 1, 1, 1, 1, "oldest", False, None, None)
        for steady in range(1, 10):
            self.assertEqual(good_tokens(setting, steady, steady), ALL)

    def test_calls(self):
        check_calls(self, good_tokens, ("setting", "steady", "most"), SEVERAL[2][:3])

    def test_it_is_defined_in_its_file(self):
        self.assertEqual(good_tokens.__module__, "comesback.tokens")
        self.assertIs(tokens_file.good_tokens, good_tokens)


if __name__ == "__main__":
    unittest.main()
