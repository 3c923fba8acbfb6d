"""The interface, and points [1] and [2] for all functions that it lists so far."""

import copy
import importlib
import inspect
import unittest

from bothplans.stores import Store
from tests.support import PlanCase, as_lists, as_tuples

SUMS = Store([3, 3], [(0, 2), (1, 1), (2, 0)])
SQUARE = Store([2, 2], [(0, 0), (0, 1), (1, 0), (1, 1)])
WHOLE = [[1, 0]]
FIRST, LAST = [0, 0], [1, 1]
QUESTION = [3, 3, 4, 4]
UNLIKE = (((0, 0), (1, 0)),)
TORN = ((0, 2), (2, 0), (0,), (1,), (5, 6, 7))
WALK = ((0, 0), (0, 1), (1, 1))

# Each function of the interface with its arguments, in their order, and an example of a call.
CALLS = {
    "stores": {
        "Store": {"sizes": [3, 3], "states": [[2, 0], [0, 2], [1, 1], [0, 2]]},
        "checked_state": {"store": SUMS, "value": [2, 0]},
        "checked_lot": {"store": SUMS, "value": [1, 0]},
        "agreeing": {"store": SQUARE, "one": FIRST, "other": [0, 1]},
        "other_keys": {"store": SQUARE, "lot": [1]},
        "view_of": {"store": SQUARE, "state": [1, 0], "lot": [1, 0]},
        "neighbours": {"store": SQUARE, "state": FIRST},
    },
    "questions": {
        "checked_question": {"store": SQUARE, "value": QUESTION},
        "answer": {"store": SQUARE, "question": QUESTION, "state": LAST},
        "value_question": {"store": SQUARE, "key": 1},
        "classes": {"store": SQUARE, "question": QUESTION},
        "turning": {"store": SQUARE, "question": QUESTION},
    },
    "texts": {
        "store_text": {"store": SUMS},
        "read_store": {"text": "store 3 3\n0 2\n1 1\n2 0"},
    },
    "telling": {
        "tells": {"store": SQUARE, "question": QUESTION, "lot": [0]},
        "fault": {"store": SQUARE, "question": QUESTION, "lot": [1]},
        "is_fault": {"store": SQUARE, "question": QUESTION, "lot": [1], "value": UNLIKE[0]},
        "plan_table": {"store": SQUARE, "question": QUESTION, "lot": [1, 0]},
    },
    "least": {
        "least_lots": {"store": SQUARE, "question": QUESTION},
        "parting_lots": {"store": SQUARE, "question": QUESTION},
        "needed_keys": {"store": SQUARE, "question": QUESTION},
        "idle_keys": {"store": SQUARE, "question": QUESTION},
        "least_paper": {"store": SQUARE, "question": QUESTION, "lot": [0]},
        "is_least_paper": {"store": SQUARE, "question": QUESTION, "lot": [0], "value": UNLIKE},
    },
    "families": {
        "family_store": {"keys": 3, "lots": [[0], [2, 1]]},
        "told_keys": {"store": SUMS, "lot": [1]},
        "tells_more": {"store": SUMS, "one": [0], "other": [1, 0]},
        "full_lots": {"store": SUMS},
    },
    "chains": {
        "chain": {"store": SQUARE, "one": FIRST, "other": LAST},
        "is_chain": {"store": SQUARE, "one": FIRST, "other": LAST, "value": WALK},
        "is_joined": {"store": SUMS},
        "unjoined": {"store": SUMS},
    },
    "torn": {
        "torn_plans": {"store": SUMS},
        "are_torn_plans": {"store": SUMS, "value": TORN},
    },
    "turnings": {
        "rests_on": {"store": SQUARE, "question": QUESTION},
        "turning_paper": {"store": SQUARE, "question": QUESTION},
        "is_turning_paper": {"store": SQUARE, "question": QUESTION, "lot": [0], "value": UNLIKE},
    },
    "islands": {
        "islands": {"store": SQUARE, "lot": [1]},
        "island_question": {"store": SQUARE, "lot": [1]},
        "is_whole": {"store": SQUARE, "lot": [1, 0]},
        "unwhole": {"store": SUMS},
    },
    "tyings": {
        "checked_tying": {"store": SQUARE, "value": [[1], [0]]},
        "is_coarser": {"store": SQUARE, "one": WHOLE, "other": [[1], [0]]},
        "refined": {"store": SQUARE, "one": WHOLE, "other": [[1], [0]]},
        "are_nested": {"store": SQUARE, "tying": WHOLE, "one": [1], "other": [1, 0]},
        "tied_chain": {"store": SQUARE, "tying": [[1], [0]], "one": FIRST, "other": LAST},
        "is_tied_chain": {"store": SQUARE, "tying": [[1], [0]], "one": FIRST, "other": LAST, "value": WALK},
    },
}


def all_calls():
    for module_name, calls in CALLS.items():
        module = importlib.import_module("bothplans." + module_name)
        for name, arguments in calls.items():
            yield module, name, getattr(module, name), arguments


def plain(value):
    """A value in which each store is its sizes and states: a text of it tells all kinds of what it consists of."""
    if isinstance(value, Store):
        return "Store", value.sizes, value.states
    if isinstance(value, tuple):
        return tuple(plain(entry) for entry in value)
    return value


class InterfaceTest(PlanCase):
    def same_told(self, got, wanted):
        self.same(plain(got), plain(wanted))

    def test_each_name_is_defined_in_its_file(self):
        for module, name, function, _ in all_calls():
            self.assertEqual(function.__module__, module.__name__, name)

    def test_arguments_have_their_names_and_order(self):
        for _, name, function, arguments in all_calls():
            parameters = inspect.signature(function).parameters.values()
            self.assertEqual([parameter.name for parameter in parameters], list(arguments), name)
            for parameter in parameters:
                self.assertEqual(parameter.kind, parameter.POSITIONAL_OR_KEYWORD, name)
                self.assertEqual(parameter.default, parameter.empty, name)

    def test_by_name_as_by_place(self):
        for _, name, function, arguments in all_calls():
            backwards = {key: arguments[key] for key in reversed(list(arguments))}
            self.same_told(function(**backwards), function(*arguments.values()))

    def test_lists_and_tuples_alike(self):
        for _, name, function, arguments in all_calls():
            wanted = function(**arguments)
            self.same_told(function(**{key: as_tuples(value) for key, value in arguments.items()}), wanted)
            # What is asked to be some thing itself has to be in tuples.
            listed = {key: value if key == "value" and isinstance(value, tuple) else as_lists(value)
                      for key, value in arguments.items()}
            self.same_told(function(**listed), wanted)

    def test_what_is_some_thing_is_so_in_tuples_alone(self):
        for _, name, function, arguments in all_calls():
            if name.startswith(("is_", "are_")) and "value" in arguments:
                self.same(function(**arguments), True)
                self.same(function(**{**arguments, "value": as_lists(arguments["value"])}), False)
                self.same(function(**{**arguments, "value": list(arguments["value"])}), False)

    def test_asked_again(self):
        for _, name, function, arguments in all_calls():
            self.same_told(function(**arguments), function(**copy.deepcopy(arguments)))

    def test_arguments_are_not_changed(self):
        for _, name, function, arguments in all_calls():
            passed = copy.deepcopy(arguments)
            function(**passed)
            self.assertEqual(passed, arguments, name)
            self.same({key: plain(value) for key, value in passed.items()},
                      {key: plain(value) for key, value in arguments.items()})

    def test_later_changes_have_no_effect(self):
        for _, name, function, arguments in all_calls():
            passed = {key: as_lists(value) for key, value in arguments.items() if key != "value"}
            passed.update({key: copy.deepcopy(value) for key, value in arguments.items() if key == "value"})
            told = function(**passed)
            before = repr(plain(told))
            for value in passed.values():
                if isinstance(value, list):
                    for entry in value:
                        if isinstance(entry, list):
                            entry.clear()
                    value.clear()
            self.assertEqual(repr(plain(told)), before, name)

    def test_several_things_are_told_in_tuples(self):
        def consists_of_plain_things(value):
            if type(value) is tuple:
                return all(consists_of_plain_things(entry) for entry in value)
            return value is None or type(value) in (bool, int, str, Store)

        for _, name, function, arguments in all_calls():
            self.assertTrue(consists_of_plain_things(function(**arguments)), name)

    def test_whether_is_told_by_true_or_false(self):
        for _, name, function, arguments in all_calls():
            if name.startswith(("is_", "are_", "tells")):
                self.assertIs(type(function(**arguments)), bool, name)


if __name__ == "__main__":
    unittest.main()
