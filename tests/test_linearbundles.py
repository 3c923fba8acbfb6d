"""Point [28]: changes, least changes, and the bundles of linear rules."""

import itertools
import unittest

from bothplans.bundles import finest, is_joined_by
from bothplans.errors import InvalidLot
from bothplans.knots import is_knot
from bothplans.linear import LinearRules, linear_store, obeys
from bothplans.linearbundles import is_change, is_least_change, linear_bundles, tying_change
from bothplans.parts import is_parted_by
from tests import reference
from tests.support import PlanCase, as_lists, no_entries, no_numbers, no_sequences
from tests.systems import large_systems, small_systems

SUMS = LinearRules(3, 4, [(2, 2, 2, 0, 1), [1, 1, 1, 0, 2]])
FIXED = LinearRules(5, 3, [(1, 0, 0, 4), (0, 1, 2, 0)])


def small_states():
    """Linear rules with their states, if these are not too many to try everything."""
    for rules, system in small_systems():
        states = reference.obeying(system.prime, system.key_count, rules)
        if len(states) <= 90:
            yield system, states


class ChangeTest(PlanCase):
    def test_examples(self):
        self.same(is_least_change(SUMS, (0, 1, 2, 0)), True)
        self.same(is_change(value=(1, 1, 1, 0), system=SUMS), True)
        self.same(is_least_change(value=(1, 1, 1, 0), system=SUMS), False)
        self.same(is_least_change(SUMS, (0, 0, 0, 2)), True)
        self.same(is_change(SUMS, (0, 1, 2, 2)), True)
        self.same(is_least_change(SUMS, (0, 1, 2, 2)), False)
        for function in (is_change, is_least_change):
            self.same(function(SUMS, (0, 1, 1, 0)), False)
            self.same(function(SUMS, (0, 0, 0, 0)), False)

    def test_all_rows(self):
        for system, states in small_states():
            every = set(reference.changes(system.prime, states))
            least = set(reference.least_changes(system.prime, states))
            for row in itertools.product(range(system.prime), repeat=system.key_count):
                self.same(is_change(system, row), row in every)
                self.same(is_least_change(system, row), row in least)

    def test_each_state_with_a_change_is_a_state(self):
        for system, states in small_states():
            for change in reference.changes(system.prime, states)[::5]:
                for state in states:
                    moved = tuple((value + more) % system.prime for value, more in zip(state, change))
                    self.same(obeys(system, moved), True)

    def test_other_values_are_none(self):
        for function in (is_change, is_least_change):
            for value in no_entries() + [[0, 1, 2, 0], (0, 1, 2), (0, 1, 2, 0, 0), (0, 1, 2, 3), (0, 1, -1, 0), (0, True, 2, 0),
                                         (0, 1.0, 2, 0), (0, 1, 2, None), ((0, 1, 2, 0),), (0, 1, (2,), 0), (3, 1, 2, 0)]:
                self.same(function(SUMS, value), False)
            for entry in no_entries():
                if type(entry) is not int:
                    self.same(function(LinearRules(2, 1, []), (entry,)), False)

    def test_one_state(self):
        system = LinearRules(2, 2, [(1, 0, 1), (0, 1, 0)])
        for row in itertools.product(range(2), repeat=2):
            self.same((is_change(system, row), is_least_change(system, row)), (False, False))


class LinearBundlesTest(PlanCase):
    def test_examples(self):
        self.same(linear_bundles(SUMS), ((0, 1, 2), (3,)))
        self.same(linear_bundles(system=FIXED), ((0,), (1, 2)))
        self.same(linear_bundles(LinearRules(13, 12, [])), tuple((key,) for key in range(12)))
        self.same(linear_bundles(LinearRules(2, 12, [[1] * 12 + [0]])), (tuple(range(12)),))
        self.same(linear_bundles(LinearRules(2, 1, [])), ((0,),))

    def test_the_finest_tying_of_the_states(self):
        for system, states in small_states():
            if system.prime <= 7:
                self.same(linear_bundles(system), finest(linear_store(system)))

    def test_a_tying_joins_exactly_if_it_parts(self):
        for system, states in small_states():
            if system.prime <= 7:
                store = linear_store(system)
                for tying in reference.tyings(store.key_count):
                    wanted = is_joined_by(store, tying)
                    self.same(is_parted_by(store, tying), wanted)
                    self.same(reference.is_coarser(tying, linear_bundles(system)), wanted)

    def test_what_hangs_together_by_the_reduced_rules(self):
        for system in large_systems():
            keys = [sorted(reference.had(rule[:-1])) for rule in system.rules]
            self.same(linear_bundles(system), reference.hang_together(12, keys))


class TyingChangeTest(PlanCase):
    def test_examples(self):
        self.assertIsNone(tying_change(SUMS, 0, 3))
        self.assertIn(tying_change(SUMS, 0, 2), ((1, 0, 2, 0), (2, 0, 1, 0)))
        self.assertIn(tying_change(other=3, one=3, system=SUMS), ((0, 0, 0, 1), (0, 0, 0, 2)))
        self.assertIsNone(tying_change(FIXED, 0, 0))
        self.assertIsNone(tying_change(FIXED, 0, 1))
        self.assertIsNone(tying_change(LinearRules(7, 2, []), 0, 1))

    def test_none_or_some(self):
        for system, states in small_states():
            least = reference.least_changes(system.prime, states)
            for one, other in itertools.product(range(system.key_count), repeat=2):
                found = tying_change(system, one, other)
                wanted = [change for change in least if change[one] and change[other]]
                if wanted:
                    self.assertIn(found, wanted)
                    self.same([type(found), {type(number) for number in found}], [tuple, {int}])
                else:
                    self.assertIsNone(found)

    def test_two_keys_are_in_one_bundle_exactly_if_some_least_change_has_both(self):
        for _, system in small_systems():
            bundles = linear_bundles(system)
            for lot in itertools.permutations(range(system.key_count), 2):
                self.assertEqual(tying_change(system, *lot) is not None, any(set(lot) <= set(bundle) for bundle in bundles))

    def test_a_state_without_and_with_it_knots_them(self):
        for system, states in small_states():
            if system.prime <= 7:
                store = linear_store(system)
                for one, other in itertools.combinations(range(system.key_count), 2):
                    change = tying_change(system, one, other)
                    if change is not None:
                        moved = tuple((value + more) % system.prime for value, more in zip(states[-1], change))
                        self.same(is_knot(store, one, other, (states[-1], moved)), True)

    def test_keys_that_are_none(self):
        for value in no_sequences() + no_numbers() + [4, 10 ** 20]:
            if type(value) is not int or value < 0 or value > 3:
                self.refuses(InvalidLot, 0, tying_change, SUMS, value, 0)
                self.refuses(InvalidLot, 0, tying_change, SUMS, value, value)
                self.refuses(InvalidLot, 1, tying_change, SUMS, 3, value)

    def test_at_the_limits(self):
        for system in large_systems():
            bundles = linear_bundles(system)
            for one, other in itertools.combinations_with_replacement(range(12), 2):
                found = tying_change(system, one, other)
                if one != other:
                    self.assertEqual(found is not None, any({one, other} <= set(bundle) for bundle in bundles))
                if found is not None:
                    self.assertTrue(found[one] and found[other])
                    self.same(is_least_change(system, found), True)
                    self.same(is_change(system, as_lists(found)), False)


if __name__ == "__main__":
    unittest.main()
