"""The interface, and points [1] and [2] for all functions that it lists."""

import copy
import importlib
import inspect
import unittest

from bothplans.budgets import Budget
from bothplans.cache import Cache
from bothplans.desk import Desk
from bothplans.levels import Levels
from bothplans.linear import LinearRules
from bothplans.stores import Store
from tests.support import PlanCase, as_lists, as_tuples

SUMS = Store([3, 3], [(0, 2), (1, 1), (2, 0)])
SQUARE = Store([2, 2], [(0, 0), (0, 1), (1, 0), (1, 1)])
WHOLE = [[1, 0]]
FIRST, LAST = [0, 0], [1, 1]
QUESTION = [3, 3, 4, 4]
UNLIKE = (((0, 0), (1, 0)),)
TORN = ((0, 2), (2, 0), (0,), (1,), (5, 6, 7))
WALK = ((0, 0), (0, 1), (1, 1))

ANTI = Store([2, 2], [(0, 1), (1, 0)])
ANTI_FAULT = ((0,), (1,), (3, 4))
ANTI_PAPER = (((0, 1),), ((0, 1, (0, 1), (1, 0)),))
SYSTEM = LinearRules(3, 4, [(1, 1, 1, 0, 2)])
LEVELS = Levels([3, 3, 2], [(0, 1, 1, 1), (1, 1, 0, 1), (2, 1, 0, 2)])
BUDGET = Budget([2, 3, 1], 4, 5)
TOLD = [([0, 0], 4), ([1, 0], 5), ([0, 1], 4)]
KNOWN = [([1, 1], 7), ([0, 1], 4), ([1, 1], 7)]
STATES = [[1, 1], [1, 0], [0, 1], [1, 1]]
CAPS, WEIGHTS = [4, 4], [2, 3]
SHEET = ("fault", (SQUARE, (3, 3, 4, 4), (1,)), ((0, 0), (1, 0)))


def summed(state):
    return sum(state)


# Each function of the interface with its arguments, in their order, and an example of a call.
CALLS = {
    "stores": {
        "Store": {"sizes": [3, 3], "states": [[2, 0], [0, 2], [1, 1], [0, 2]]},
        "checked_state": {"store": SUMS, "value": [2, 0]},
        "checked_lot": {"store": SUMS, "value": [1, 0]},
        "agreeing": {"store": SQUARE, "one": FIRST, "other": [0, 1]},
        "other_keys": {"store": SQUARE, "lot": [1]},
        "view_of": {"store": SQUARE, "state": [1, 0], "lot": [1, 0]},
        "neighbours": {"store": SQUARE, "state": FIRST},
    },
    "questions": {
        "checked_question": {"store": SQUARE, "value": QUESTION},
        "answer": {"store": SQUARE, "question": QUESTION, "state": LAST},
        "value_question": {"store": SQUARE, "key": 1},
        "classes": {"store": SQUARE, "question": QUESTION},
        "turning": {"store": SQUARE, "question": QUESTION},
    },
    "texts": {
        "store_text": {"store": SUMS},
        "read_store": {"text": "store 3 3\n0 2\n1 1\n2 0"},
    },
    "telling": {
        "tells": {"store": SQUARE, "question": QUESTION, "lot": [0]},
        "fault": {"store": SQUARE, "question": QUESTION, "lot": [1]},
        "is_fault": {"store": SQUARE, "question": QUESTION, "lot": [1], "value": UNLIKE[0]},
        "plan_table": {"store": SQUARE, "question": QUESTION, "lot": [1, 0]},
    },
    "least": {
        "least_lots": {"store": SQUARE, "question": QUESTION},
        "parting_lots": {"store": SQUARE, "question": QUESTION},
        "needed_keys": {"store": SQUARE, "question": QUESTION},
        "idle_keys": {"store": SQUARE, "question": QUESTION},
        "least_paper": {"store": SQUARE, "question": QUESTION, "lot": [0]},
        "is_least_paper": {"store": SQUARE, "question": QUESTION, "lot": [0], "value": UNLIKE},
    },
    "families": {
        "family_store": {"keys": 3, "lots": [[0], [2, 1]]},
        "told_keys": {"store": SUMS, "lot": [1]},
        "tells_more": {"store": SUMS, "one": [0], "other": [1, 0]},
        "full_lots": {"store": SUMS},
    },
    "chains": {
        "chain": {"store": SQUARE, "one": FIRST, "other": LAST},
        "is_chain": {"store": SQUARE, "one": FIRST, "other": LAST, "value": WALK},
        "is_joined": {"store": SUMS},
        "unjoined": {"store": SUMS},
    },
    "torn": {
        "torn_plans": {"store": SUMS},
        "are_torn_plans": {"store": SUMS, "value": TORN},
    },
    "turnings": {
        "rests_on": {"store": SQUARE, "question": QUESTION},
        "turning_paper": {"store": SQUARE, "question": QUESTION},
        "is_turning_paper": {"store": SQUARE, "question": QUESTION, "lot": [0], "value": UNLIKE},
    },
    "islands": {
        "islands": {"store": SQUARE, "lot": [1]},
        "island_question": {"store": SQUARE, "lot": [1]},
        "is_whole": {"store": SQUARE, "lot": [1, 0]},
        "unwhole": {"store": SUMS},
    },
    "tyings": {
        "checked_tying": {"store": SQUARE, "value": [[1], [0]]},
        "is_coarser": {"store": SQUARE, "one": WHOLE, "other": [[1], [0]]},
        "refined": {"store": SQUARE, "one": WHOLE, "other": [[1], [0]]},
        "are_nested": {"store": SQUARE, "tying": WHOLE, "one": [1], "other": [1, 0]},
        "tied_chain": {"store": SQUARE, "tying": [[1], [0]], "one": FIRST, "other": LAST},
        "is_tied_chain": {"store": SQUARE, "tying": [[1], [0]], "one": FIRST, "other": LAST, "value": WALK},
    },
    "bundles": {
        "is_joined_by": {"store": SQUARE, "tying": [[1], [0]]},
        "finest": {"store": SUMS},
        "tyings": {"store": SQUARE},
        "tying_count": {"store": SQUARE},
        "turning_bundles": {"store": SQUARE, "tying": [[1], [0]], "question": QUESTION},
    },
    "knots": {
        "knot": {"store": ANTI, "one": 0, "other": 1},
        "is_knot": {"store": ANTI, "one": 0, "other": 1, "value": ((0, 1), (1, 0))},
        "finest_paper": {"store": ANTI},
        "is_finest_paper": {"store": ANTI, "value": ANTI_PAPER},
        "tying_fault": {"store": ANTI, "tying": [[1], [0]]},
        "is_tying_fault": {"store": ANTI, "tying": [[1], [0]], "value": ANTI_FAULT},
    },
    "slices": {
        "slice_of": {"store": SUMS, "lot": [1], "values": [2]},
        "is_in_one_piece": {"store": SUMS},
        "broken_slice": {"store": SUMS},
    },
    "parts": {
        "view_store": {"store": SUMS, "lot": [1]},
        "led_back": {"store": SUMS, "lot": [1], "question": [5, 6, 7]},
        "side_by_side": {"one": SUMS, "other": SQUARE},
        "is_parted_by": {"store": SQUARE, "tying": [[1], [0]]},
        "parts": {"store": SQUARE},
    },
    "putting": {
        "put_together": {"one": SUMS, "other": SUMS, "pairs": [(0, 1)]},
    },
    "linear": {
        "LinearRules": {"prime": 3, "keys": 2, "rules": [[1, 1, 0], [2, 2, 0]]},
        "obeys": {"system": SYSTEM, "value": (0, 1, 1, 2)},
        "freedom": {"system": SYSTEM},
        "linear_store": {"system": SYSTEM},
    },
    "linearbundles": {
        "is_change": {"system": SYSTEM, "value": (1, 1, 1, 0)},
        "is_least_change": {"system": SYSTEM, "value": (1, 2, 0, 0)},
        "linear_bundles": {"system": SYSTEM},
        "tying_change": {"system": SYSTEM, "one": 0, "other": 2},
    },
    "further": {
        "told_rule": {"system": SYSTEM, "further": [2, 2, 2, 0, 1]},
        "with_rule": {"system": SYSTEM, "further": [1, 0, 0, 1, 1]},
        "touched": {"system": SYSTEM, "further": [1, 0, 0, 1, 1]},
        "tying_rule": {"system": SYSTEM, "lot": [3, 1]},
    },
    "linearplans": {
        "row_evidence": {"system": SYSTEM, "row": [1, 0, 0, 1], "lot": [3]},
        "is_row_evidence": {"system": SYSTEM, "row": [1, 0, 0, 1], "lot": [3], "value": ("change", (1, 2, 0, 0))},
        "two_plans": {"system": SYSTEM},
        "is_two_plans": {"system": SYSTEM, "value": (0, (1, 2), (1, 2, 0, 0))},
    },
    "levels": {
        "Levels": {"sizes": [3, 2], "rules": [[0, 1, 1, 1], [0, 0, 0, 0]]},
        "keeps_rules": {"levels": LEVELS, "value": (1, 1, 0)},
        "lowest": {"levels": LEVELS, "row": [0, 0, 1]},
        "highest": {"levels": LEVELS, "row": [0, 2, 1]},
        "breach": {"levels": LEVELS, "rule": [1, 2, 2, 1]},
    },
    "rings": {
        "rings": {"levels": LEVELS},
        "ring_rows": {"levels": LEVELS, "event": [1, 1]},
        "ring_chain": {"levels": LEVELS, "one": [1, 2, 0], "other": [2, 1, 1]},
        "level_bundles": {"levels": LEVELS},
        "sum_turns": {"levels": LEVELS, "points": [[0, 1, 1], [0, 0, 0], [1, 0]]},
    },
    "leveled": {
        "levels_store": {"levels": LEVELS},
        "unclosed": {"store": SUMS},
        "levels_of": {"store": SQUARE},
    },
    "budgets": {
        "Budget": {"caps": [2, 3], "low": 1, "high": 9},
        "budget_state": {"budget": BUDGET, "value": [2, 1, 1]},
        "value_span": {"budget": BUDGET, "key": 1},
        "budget_store": {"budget": BUDGET},
    },
    "budgetsteps": {
        "budget_bundles": {"budget": BUDGET},
        "step_towards": {"budget": BUDGET, "one": [0, 3, 1], "other": [2, 1, 1]},
        "changes_needed": {"budget": BUDGET, "one": [0, 3, 1], "other": [2, 1, 1]},
    },
    "sumlots": {
        "sum_clash": {"budget": BUDGET, "factors": [5, -5, 0], "lot": [2, 0]},
        "sum_lots": {"budget": BUDGET, "factors": [5, -5, 0]},
    },
    "weighted": {
        "is_cut": {"caps": CAPS, "weights": WEIGHTS, "low": 6, "high": 9, "value": ((1, 2), (3, 0))},
        "two_cut": {"caps": CAPS, "weights": WEIGHTS, "low": 6, "high": 9},
        "enough_slack": {"caps": CAPS, "weights": WEIGHTS},
        "slack_cut": {"caps": CAPS, "weights": WEIGHTS},
    },
    "told": {
        "sure_keys": {"store": SQUARE, "told": TOLD},
        "spare_keys": {"store": SQUARE, "told": TOLD},
        "open_keys": {"store": SQUARE, "told": TOLD},
        "may_rest_on": {"store": SQUARE, "told": TOLD, "lot": [1, 0]},
    },
    "halving": {
        "turning_change": {"store": SQUARE, "ask": summed, "one": FIRST, "other": LAST},
    },
    "asking": {
        "next_ask": {"store": SQUARE, "told": TOLD},
        "learned": {"store": SQUARE, "ask": summed},
        "must_ask": {"store": SQUARE, "question": QUESTION},
        "shows": {"store": SQUARE, "question": QUESTION, "states": STATES},
    },
    "explaining": {
        "explained": {"store": SQUARE, "ask": summed, "states": STATES},
    },
    "sure": {
        "sure_classes": {"store": SUMS, "lots": [[1], [1, 0]]},
        "sure_way": {"store": SQUARE, "lots": [[1], [0]], "one": FIRST, "other": LAST},
        "is_sure_way": {"store": SQUARE, "lots": [[1], [0]], "one": FIRST, "other": LAST, "value": WALK},
        "class_question": {"store": SQUARE, "lots": [[1], [1, 0]]},
    },
    "commons": {
        "common_keys": {"store": SQUARE, "lots": [[1], [1, 0]]},
        "surely_tells": {"store": SQUARE, "lots": [[1], [1, 0]], "lot": [1]},
        "sure_lots": {"store": SUMS, "lots": [[1], [0]]},
        "common_fault": {"store": SUMS, "lots": [[1], [0]]},
        "adds": {"store": SQUARE, "lots": [[1], [1, 0]], "lot": [0]},
        "enough_plans": {"store": SQUARE, "lots": [[1, 0], [1]]},
        "are_enough_plans": {"store": SQUARE, "lots": [[1, 0], [1]], "value": (1,)},
    },
    "sayings": {
        "sure_answers": {"store": SQUARE, "lots": [[1, 0]], "known": KNOWN},
        "asks_left": {"store": SQUARE, "lots": [[1, 0]], "known": KNOWN},
    },
    "cache": {
        "Cache": {"store": SQUARE, "state": [0, 1]},
    },
    "sheets": {
        "sheet_holds": {"value": SHEET},
        "sheet": {"name": "fault", "question": SHEET[1]},
        "wrong_sheets": {"values": [SHEET, SHEET[:2]]},
    },
    "desk": {
        "Desk": {},
    },
}

# The methods of the interface with their arguments, in their order.
METHODS = {
    Cache: {"__len__": [], "state": [], "kept": [], "found": [], "ask": ["question", "plan"], "change": ["state"], "undo": [],
            "within": ["work"]},
    Desk: {"say": ["command"]},
}


# How the names of the functions begin that tell whether something is so.
WHETHER = ("is_", "are_", "tells", "obeys", "keeps_rules", "surely_tells", "adds", "may_rest_on", "shows", "sheet_holds")

# Arguments in which some things must be tuples, and what may be in lists there.
PAIRED = ("pairs", "told", "known")


def all_calls():
    for module_name, calls in CALLS.items():
        module = importlib.import_module("bothplans." + module_name)
        for name, arguments in calls.items():
            yield module, name, getattr(module, name), arguments


def plain(value):
    """A value in which each object is its attributes: a text of it tells all kinds of what it consists of."""
    if isinstance(value, Store):
        return "Store", value.sizes, value.states
    if isinstance(value, LinearRules):
        return "LinearRules", value.prime, value.key_count, value.rules
    if isinstance(value, Levels):
        return "Levels", value.sizes, value.rules
    if isinstance(value, Budget):
        return "Budget", value.caps, value.low, value.high
    if isinstance(value, Cache):
        return "Cache", plain(value.store), value.state(), value.kept(), value.found(), len(value)
    if isinstance(value, Desk):
        return "Desk", plain(value.cache)
    if isinstance(value, (list, tuple)):
        return type(value)(plain(entry) for entry in value)
    return value


def tupled(arguments):
    return {key: as_tuples(value) for key, value in arguments.items()}


def in_lists(arguments):
    """The arguments with lists for tuples, unless just tuples are right: pairs, and what is asked to be some thing."""
    made = {}
    for name, value in arguments.items():
        if name in PAIRED:
            made[name] = [tuple(as_lists(entry)) for entry in value]
        elif name == "values" and SHEET in value:
            made[name] = list(value)
        elif name == "question" and isinstance(value[0], Store):
            made[name] = value
        elif name == "value" and isinstance(value, tuple):
            made[name] = value
        else:
            made[name] = as_lists(value)
    return made


class InterfaceTest(PlanCase):
    def same_told(self, got, wanted):
        self.same(plain(got), plain(wanted))

    def test_each_name_is_defined_in_its_file(self):
        for module, name, function, _ in all_calls():
            self.assertEqual(function.__module__, module.__name__, name)

    def test_arguments_have_their_names_and_order(self):
        for _, name, function, arguments in all_calls():
            parameters = inspect.signature(function).parameters.values()
            self.assertEqual([parameter.name for parameter in parameters], list(arguments), name)
            for parameter in parameters:
                self.assertEqual(parameter.kind, parameter.POSITIONAL_OR_KEYWORD, name)
                self.assertEqual(parameter.default, parameter.empty, name)

    def test_methods_are_defined_in_their_class(self):
        for kind, methods in METHODS.items():
            for name, arguments in methods.items():
                parameters = list(inspect.signature(vars(kind)[name]).parameters.values())[1:]
                self.assertEqual([parameter.name for parameter in parameters], arguments, name)
                for parameter in parameters:
                    self.assertEqual(parameter.kind, parameter.POSITIONAL_OR_KEYWORD, name)
                    self.assertEqual(parameter.default, parameter.empty, name)

    def test_by_name_as_by_place(self):
        for _, name, function, arguments in all_calls():
            backwards = {key: arguments[key] for key in reversed(list(arguments))}
            self.same_told(function(**backwards), function(*arguments.values()))

    def test_lists_and_tuples_alike(self):
        for _, name, function, arguments in all_calls():
            wanted = function(**arguments)
            self.same_told(function(**tupled(arguments)), wanted)
            self.same_told(function(**in_lists(arguments)), wanted)

    def test_what_is_some_thing_is_so_in_tuples_alone(self):
        for _, name, function, arguments in all_calls():
            if name.startswith(WHETHER) and "value" in arguments:
                self.same(function(**arguments), True)
                self.same(function(**{**arguments, "value": as_lists(arguments["value"])}), False)
                self.same(function(**{**arguments, "value": list(arguments["value"])}), False)

    def test_asked_again(self):
        for _, name, function, arguments in all_calls():
            self.same_told(function(**arguments), function(**copy.deepcopy(arguments)))

    def test_arguments_are_not_changed(self):
        for _, name, function, arguments in all_calls():
            passed = copy.deepcopy(arguments)
            function(**passed)
            self.assertEqual(passed, arguments, name)
            self.same({key: plain(value) for key, value in passed.items()},
                      {key: plain(value) for key, value in arguments.items()})

    def test_later_changes_have_no_effect(self):
        for _, name, function, arguments in all_calls():
            passed = copy.deepcopy(in_lists(arguments))
            told = function(**passed)
            before = repr(plain(told))
            for value in passed.values():
                if isinstance(value, list):
                    for entry in value:
                        if isinstance(entry, list):
                            entry.clear()
                    value.clear()
            self.assertEqual(repr(plain(told)), before, name)

    def test_several_things_are_told_in_tuples(self):
        def consists_of_plain_things(value):
            if type(value) is tuple:
                return all(consists_of_plain_things(entry) for entry in value)
            return value is None or type(value) in (bool, int, str, Store, LinearRules, Levels, Budget, Cache, Desk)

        for _, name, function, arguments in all_calls():
            self.assertTrue(consists_of_plain_things(function(**arguments)), name)

    def test_whether_is_told_by_true_or_false(self):
        for _, name, function, arguments in all_calls():
            if name.startswith(WHETHER):
                self.assertIs(type(function(**arguments)), bool, name)


if __name__ == "__main__":
    unittest.main()
