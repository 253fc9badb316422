"""What the document promises over the whole program."""

import doctest
import importlib
import inspect
import itertools
import os
import unittest

from comesback import errors
from comesback.errors import (
    NoCount, NoFails, NoFresh, NoGate, NoMost, NoPlan, NoRow, NoService, NoServices, NoSetting, NoState, NoSteady,
    NoText, NoTree, ServeError, TooMany,
)
from comesback.houses import House, Noted, NotedShielded, Shielded
from comesback.settings import first_state

from tests.model import deep, kinds_of, strange_values

SESSION = """
>>> from comesback.beats import beat
>>> from comesback.bursts import bursts
>>> from comesback.cures import cure
>>> from comesback.settings import first_state
>>> setting = (2, 4, 1, 2, 1, "oldest", True, None, None)
>>> beat(setting, first_state(setting), 4)
(4, 2, 0, 0, 2, 0, (2, (), ((2,),), 0, 0))
>>> bursts(setting, 1, first_state(setting))
((2, None),)
>>> cure(setting, 1, (2, (), ((2,),), 0, 0))[:3]
('cure', 1, (1, 0))
"""

EXAMPLE = (2, 4, 1, 2, 1, "oldest", True, None, None)
TREE = (0, 2, "all", ((1, 1, "all", ()), (2, 1, "any", ())))
TEXT = "work 2\nroom 4\npatience 1\ntries 2\nwait 1\nway oldest\ndead yes\ntokens none\nfuse none\n"
# For each name of an argument: something good, and the exception for what is not; None where any value will do.
GOOD = {
    "setting": (EXAMPLE, NoSetting), "one": (EXAMPLE, NoSetting), "other": (EXAMPLE, NoSetting),
    "state": (first_state(EXAMPLE), NoState), "fresh": (3, NoFresh), "row": ((1, 2), NoRow), "steady": (1, NoSteady),
    "most": (3, NoMost), "tree": (TREE, NoTree), "plan": ((2, True), NoPlan), "fails": ((0, 2), NoFails),
    "failing": ((0, 2), NoServices), "service": (1, NoService), "many": (2, NoCount), "keeps": (True, NoPlan),
    "gate": (5, NoGate), "text": (TEXT, NoText), "thing": (None, None),
}
# The functions and classes of the interface, with the names of their arguments in the order of their exceptions.
INTERFACE = {
    "settings": {"is_setting": "thing", "first_state": "setting", "is_state": "setting thing"},
    "beats": {"beat": "setting state fresh", "is_row": "thing", "run": "setting state row", "totals": "setting state row"},
    "calm": {"calm": "setting steady", "stays": "setting steady state"},
    "bursts": {"bursts": "setting steady state"},
    "rows": {"rows": "setting steady most", "shows_rows": "setting steady most thing"},
    "cures": {"cure": "setting steady state", "shows_cure": "setting steady state thing"},
    "loads": {"load": "setting most", "worst": "setting most", "shows_load": "setting most thing",
              "shows_worst": "setting most thing"},
    "alike": {"alike": "one other most", "shows_alike": "one other most thing"},
    "tokens": {"good_tokens": "setting steady most"},
    "trees": {"is_tree": "thing", "is_plan": "thing", "calls": "tree", "services": "tree", "ran": "tree plan fails"},
    "failing": {"only": "tree failing service", "numbers": "tree failing service",
                "shows_only": "tree failing service thing", "worst_set": "tree service many"},
    "budgets": {"greatest": "tree plan service", "needed": "tree keeps service most"},
    "houses": {"House": "setting", "Shielded": "setting gate", "Noted": "setting", "NotedShielded": "setting gate"},
    "texts": {"setting_text": "setting", "read_setting": "text"},
}


def all_calls():
    """Each function and class of the interface, with the names of its arguments and good and wrong values."""
    for file, functions in INTERFACE.items():
        for name, words in functions.items():
            call = getattr(importlib.import_module("comesback." + file), name)
            kinds = [GOOD[word] for word in words.split()]
            if name == "needed":
                kinds[3] = (5, NoCount)
            yield call, words.split(), kinds


def objects():
    """Objects of the package, and what may hold them."""
    house = House(EXAMPLE)
    house.run(4, 1)
    for one in (house, Shielded(EXAMPLE, 2), Noted(EXAMPLE), NotedShielded(EXAMPLE, 0), TooMany(3), NoSetting("no")):
        for held in (one, (one,), [one], {1: one}, (one,) * 2, (one,) * 4, (one,) * 5, (one,) * 9, ((one, one),)):
            yield held


class Whole(unittest.TestCase):
    def test_the_session_of_the_document(self):
        test = doctest.DocTestParser().get_doctest(SESSION, {}, "session", None, 0)
        self.assertEqual(len(test.examples), 8)
        runner = doctest.DocTestRunner(verbose=False)
        self.assertEqual(runner.run(test).failed, 0)

    def test_names_and_arguments(self):
        for call, names, _ in all_calls():
            with self.subTest(call.__name__):
                self.assertEqual(list(inspect.signature(call).parameters), names)
                kinds = {one.kind for one in inspect.signature(call).parameters.values()}
                self.assertEqual(kinds, {inspect.Parameter.POSITIONAL_OR_KEYWORD})
                self.assertTrue(all(one.default is inspect.Parameter.empty
                                    for one in inspect.signature(call).parameters.values()))

    def test_each_stands_in_its_file(self):
        for file, functions in INTERFACE.items():
            module = importlib.import_module("comesback." + file)
            for name in functions:
                self.assertEqual(getattr(module, name).__module__, "comesback." + file)

    def test_by_names_in_another_order(self):
        for call, names, kinds in all_calls():
            values = [good for good, _ in kinds]
            with self.subTest(call.__name__):
                before = repr(values)
                told = call(*values)
                again = call(**dict(reversed(list(zip(names, values)))))
                self.assertEqual(kinds_of(again), kinds_of(told))
                self.assertEqual(repr(values), before)

    def test_the_first_listed_exception(self):
        wrongs = [None, True, "x", (), [], {}, -1, (None,), deep(40, list), deep(40, tuple), deep(40, dict), House(EXAMPLE)]
        for call, names, kinds in all_calls():
            for bad in itertools.product((False, True), repeat=len(kinds)):
                first = next((error for wrong, (_, error) in zip(bad, kinds) if wrong and error is not None), None)
                for wrong in wrongs if first is not None else ():
                    values = [wrong if one and error is not None else good for one, (good, error) in zip(bad, kinds)]
                    if any(one and fits(name, wrong) for one, name in zip(bad, names)):
                        continue
                    with self.subTest(call=call.__name__, values=str(values)[:200]):
                        with self.assertRaises(first) as caught:
                            call(*values)
                        self.assertIs(type(caught.exception), first)
                        self.assertIsInstance(caught.exception, ServeError)

    def test_any_thing(self):
        things = strange_values() + list(objects())
        for call, names, kinds in all_calls():
            if names[-1] == "thing":
                for thing in things:
                    if call.__name__ == "is_row" and isinstance(thing, tuple) and not thing:
                        continue
                    with self.subTest(call=call.__name__, thing=str(thing)[:100]):
                        self.assertIs(call(*[good for good, _ in kinds[:-1]], thing), False)

    def test_objects_of_the_package_as_any_argument(self):
        for call, names, kinds in all_calls():
            for place, (_, error) in enumerate(kinds):
                for thing in objects() if error is not None else ():
                    values = [good for good, _ in kinds]
                    values[place] = thing
                    with self.subTest(call=call.__name__, place=place, thing=str(thing)[:100]):
                        with self.assertRaises(error):
                            call(*values)

    def test_all_exceptions_but_these_are_of_the_package(self):
        listed = {error for _, _, kinds in all_calls() for _, error in kinds if error is not None}
        self.assertTrue(all(error.__bases__ == (errors.ServeError,) for error in listed))
        self.assertEqual(len(listed), 14)

    def test_the_folder_holds_nothing_but_its_files(self):
        folder = os.path.join(os.path.dirname(os.path.dirname(os.path.abspath(__file__))), "comesback")
        for name in os.listdir(folder):
            if name != "__pycache__":
                self.assertRegex(name, r"^[a-z_]+\.py$")


def fits(name, wrong):
    """Whether what is wrong for most arguments is right for the one of this name."""
    if isinstance(wrong, bool):
        return name == "keeps"
    return wrong == () and name in ("row", "fails", "failing") or wrong is None and name == "service"


if __name__ == "__main__":
    unittest.main()
