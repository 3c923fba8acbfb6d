"""Points [1] to [4], over all functions of the interface: kinds of values, objects, and which error comes first."""

import itertools
import unittest

from bothplans.budgets import Budget
from bothplans.cache import Cache
from bothplans.desk import Desk
from bothplans.errors import InvalidCommand, PlanError, Refused
from bothplans.levels import Levels
from bothplans.linear import LinearRules
from bothplans.stores import Store
from tests.support import PlanCase, Unfriendly, no_sequences
from tests.test_interface import SUMS, all_calls

OBJECTS = (Store, LinearRules, Levels, Budget)

# Arguments that are promised to be what they are called, and such of which some entries may be anything.
TRUSTED = {("family_store", "keys"), ("wrong_sheets", "values")} | set(itertools.product(
    ("is_cut", "two_cut", "enough_slack", "slack_cut"), ("caps", "weights", "low", "high")))


def checked_calls():
    """Each function with its arguments, and the names of those that may be any value."""
    for _, name, function, arguments in all_calls():
        anything = [key for key, value in arguments.items() if not isinstance(value, OBJECTS) and not callable(value)
                    and (name, key) not in TRUSTED]
        yield name, function, arguments, anything


def with_leaf_changed(value, change):
    """All values that are alike but for one integer in them."""
    if isinstance(value, (list, tuple)):
        for at, entry in enumerate(value):
            for changed in with_leaf_changed(entry, change):
                yield type(value)([*value[:at], changed, *value[at + 1:]])
    elif type(value) is int:
        yield change(value)


def what_comes(function, arguments):
    """What is told, or the class of the error and its `at`."""
    try:
        return function(**arguments)
    except InvalidCommand as error:
        return type(error), 0
    except PlanError as error:
        return type(error), error.at


def is_error(told):
    return isinstance(told, tuple) and len(told) == 2 and isinstance(told[0], type) and issubclass(told[0], PlanError)


class KindsOfValuesTest(PlanCase):
    def refused_or_false(self, name, function, arguments, key):
        told = what_comes(function, arguments)
        if key == "value" and not is_error(told):
            self.same(told, False)
        else:
            self.assertTrue(is_error(told), (name, arguments))
            self.assertIs(type(told[1]), int)
            self.assertGreaterEqual(told[1], 0)

    def check(self, change):
        for name, function, arguments, anything in checked_calls():
            for key in anything:
                for value in with_leaf_changed(arguments[key], change):
                    self.refused_or_false(name, function, {**arguments, key: value}, key)

    def test_true_and_false_are_no_numbers(self):
        self.check(lambda number: bool(number) if number in (0, 1) else True)

    def test_what_equals_a_number_is_none(self):
        self.check(float)
        self.check(complex)

    def test_other_kinds_are_no_numbers(self):
        for value in (None, "0", b"0", [], (), {}, Ellipsis):
            self.check(lambda number: value)
        self.check(lambda number: Unfriendly())

    def test_no_sequence(self):
        for name, function, arguments, anything in checked_calls():
            for key in anything:
                if isinstance(arguments[key], (list, tuple)):
                    for value in no_sequences():
                        self.refused_or_false(name, function, {**arguments, key: value}, key)

    def test_a_sequence_of_anything(self):
        for name, function, arguments, anything in checked_calls():
            for key in anything:
                for value in ([None], (Unfriendly(),), [[Unfriendly()]], ((None, Unfriendly()),) * 4, [[], []]):
                    told = what_comes(function, {**arguments, key: value})
                    if key == "value" and not is_error(told):
                        self.same(told, False)


class FirstErrorTest(PlanCase):
    def test_from_left_to_right(self):
        for name, function, arguments, anything in checked_calls():
            alone = {}
            for key in anything:
                told = what_comes(function, {**arguments, key: None})
                if is_error(told):
                    alone[key] = told
            for first, second in itertools.combinations(alone, 2):
                told = what_comes(function, {**arguments, first: None, second: None})
                self.same(told, alone[first])

    def test_a_store_that_is_not_joined_comes_first(self):
        names = ("rests_on", "sure_keys", "spare_keys", "open_keys", "may_rest_on", "turning_change", "next_ask", "learned", "must_ask",
                 "shows", "explained")
        checked = []
        for name, function, arguments, anything in checked_calls():
            if name in names:
                checked.append(name)
                for count in range(len(anything) + 1):
                    for wrong in itertools.combinations(anything, count):
                        told = what_comes(function, {**arguments, "store": SUMS, **{key: None for key in wrong}})
                        self.same(told, (Refused, 0))
        self.assertEqual(sorted(checked), sorted(names))


class ObjectsTest(PlanCase):
    def test_no_object_equals_a_value_of_another_kind(self):
        square = Store([2, 2], [(0, 0), (0, 1), (1, 0), (1, 1)])
        objects = [square, LinearRules(2, 2, []), Levels([2, 2], []), Budget([1, 1], 0, 2), Cache(square, (0, 0)), Desk(),
                   Refused(0), InvalidCommand()]
        plain = [None, 0, 1, True, (), [], "", "store", square.states, square.sizes, {}, object(), Store, PlanError]
        for one in objects:
            for other in objects + plain:
                if one is not other:
                    self.assertIs(one == other, False)
                    self.assertIs(other == one, False)
                    self.assertIs(one != other, True)
            self.assertIs(one == one, True)

    def test_attributes_stay_as_they_are(self):
        for name, function, arguments, _ in checked_calls():
            before = {key: dict(vars(value)) for key, value in arguments.items() if isinstance(value, OBJECTS)}
            function(**arguments)
            for key, attributes in before.items():
                self.assertEqual(repr(vars(arguments[key])), repr(attributes), name)


if __name__ == "__main__":
    unittest.main()
