"""Point [36]: changes of budgets."""

import itertools
import unittest

from bothplans.budgets import Budget, budget_state, budget_store
from bothplans.budgetsteps import budget_bundles, changes_needed, step_towards
from bothplans.bundles import finest
from bothplans.errors import InvalidState, Refused
from tests import reference
from tests.support import PlanCase, Unfriendly, as_lists, no_entries
from tests.systems import budget_rows, small_budgets

TIGHT, LOOSE = Budget((2, 3, 1), 4, 4), Budget((2, 3, 1), 4, 5)
LARGE = 10 ** 30 - 1


def steps(rows, one, other):
    """All that step_towards may tell, by the words of the point."""
    found = []
    for key in reference.apart(one, other):
        way = 1 if other[key] > one[key] else -1
        far = [one[:key] + (value,) + one[key + 1:] for value in range(one[key] + way, other[key] + way, way)]
        found.extend([row for row in far if row in rows][-1:])
    return found


def changes(rows, one, other):
    """The least number of single changes that lead from one to another one, only keys being changed in which they differ."""
    free = reference.apart(one, other)
    reached, layer, count = {one}, [one], 0
    while layer and other not in reached:
        layer = [row for row in rows if row not in reached
                 and any(len(reference.apart(row, near)) == 1 and reference.apart(row, near)[0] in free for near in layer)]
        reached.update(layer)
        count += 1
    return count if other in reached else None


class BundlesTest(PlanCase):
    def test_examples(self):
        self.same(budget_bundles(TIGHT), ((0, 1, 2),))
        self.same(budget_bundles(budget=LOOSE), ((0,), (1,), (2,)))

    def test_the_finest_tying_of_the_store(self):
        for budget, rows in small_budgets():
            self.same(budget_bundles(budget), finest(budget_store(budget)))

    def test_by_definition(self):
        for budget, rows in small_budgets():
            if budget.key_count <= 4 and len(rows) <= 12:
                joined = reference.joined_tyings(budget_store(budget))
                self.assertIn(budget_bundles(budget), joined)
                self.assertTrue(all(reference.is_coarser(tying, budget_bundles(budget)) for tying in joined))

    def test_keys_that_are_not_free(self):
        self.same(budget_bundles(Budget([0, 2, 0, 2], 1, 1)), ((0,), (1, 3), (2,)))
        self.same(budget_bundles(Budget([2, 2], 4, 4)), ((0,), (1,)))
        self.same(budget_bundles(Budget([2, 2], 0, 0)), ((0,), (1,)))
        self.same(budget_bundles(Budget([5], 3, 3)), ((0,),))
        self.same(budget_bundles(Budget([5], 2, 3)), ((0,),))

    def test_high_beyond_what_can_be(self):
        self.same(budget_bundles(Budget([2, 3], 5, 9)), ((0,), (1,)))
        self.same(budget_bundles(Budget([2, 3, 0], 4, LARGE)), ((0,), (1,), (2,)))

    def test_at_the_limits(self):
        self.same(budget_bundles(Budget([LARGE] * 11 + [0], LARGE, LARGE)), (tuple(range(11)), (11,)))
        self.same(budget_bundles(Budget([LARGE] * 12, LARGE - 1, LARGE)), tuple((key,) for key in range(12)))
        self.same(budget_bundles(Budget([LARGE] * 12, 12 * LARGE - 1, 12 * LARGE - 1)), (tuple(range(12)),))


class StepTowardsTest(PlanCase):
    def test_some_such_state(self):
        for budget, rows in small_budgets():
            for one, other in itertools.product(rows[:40], repeat=2):
                wanted = steps(rows, one, other)
                if one == other:
                    self.same(step_towards(budget, one, other), None)
                elif wanted:
                    self.assertIn(step_towards(budget, one, other), wanted)
                    self.same(step_towards(budget, list(one), list(other)), step_towards(budget, one, other))
                else:
                    self.refuses(Refused, 0, step_towards, budget, one, other)
                    self.assertEqual(budget.low, budget.high)

    def test_as_far_as_can_be(self):
        self.same(step_towards(Budget([9, 9], 3, 12), (9, 3), (9, 0)), (9, 0))
        self.same(step_towards(Budget([9], 0, 9), [2], [8]), (8,))
        self.same(step_towards(other=[8], one=[2], budget=Budget([9], 2, 9)), (8,))
        self.assertIn(step_towards(Budget([9, 9], 3, 5), (4, 0), (0, 4)), ((3, 0), (4, 1)))
        self.same(step_towards(Budget([9, 9], 3, 5), (5, 0), (0, 5)), (3, 0))
        self.same(step_towards(Budget([9, 9], 3, 5), (0, 3), (3, 0)), (2, 3))

    def test_always_another_step_until_there(self):
        for budget, rows in small_budgets():
            if budget.low < budget.high:
                for one, other in itertools.permutations(rows[::3][:12], 2):
                    state, count = one, 0
                    while state != other:
                        after = step_towards(budget, state, other)
                        self.same(budget_state(budget, after), after)
                        self.assertEqual(len(reference.apart(state, after)), 1)
                        state, count = after, count + 1
                        self.assertLess(count, 100)

    def test_what_is_no_state(self):
        for function in (step_towards, changes_needed):
            for value in no_entries() + [(2, 2), (2, 3, 1), (2, 2, True), (2.0, 2, 0), (2, 1, 0), [2, 2, Unfriendly()]]:
                self.refuses(InvalidState, 0, function, LOOSE, value, value)
                self.refuses(InvalidState, 0, function, LOOSE, value, (2, 2, 0))
                self.refuses(InvalidState, 1, function, LOOSE, (2, 2, 0), value)
                self.refuses(InvalidState, 1, function, TIGHT, [2, 1, 1], value)

    def test_refused_behind_the_states(self):
        self.refuses(Refused, 0, step_towards, TIGHT, (2, 2, 0), (1, 3, 0))
        self.refuses(InvalidState, 1, step_towards, TIGHT, (2, 2, 0), (1, 3, 1))
        self.same(step_towards(TIGHT, (2, 2, 0), [2, 2, 0]), None)

    def test_at_the_limits(self):
        one, other = (LARGE,) + (0,) * 11, (0,) * 11 + (LARGE,)
        self.refuses(Refused, 0, step_towards, Budget([LARGE] * 12, LARGE, LARGE), one, other)
        self.same(step_towards(Budget([LARGE] * 12, LARGE - 7, LARGE), one, other), (LARGE - 7,) + (0,) * 11)
        self.same(step_towards(Budget([LARGE] * 12, LARGE, LARGE + 7), one, other), (LARGE,) + (0,) * 10 + (7,))
        self.assertIn(step_towards(Budget([LARGE] * 12, 0, 12 * LARGE), one, other),
                      ((0,) * 12, (LARGE,) + (0,) * 10 + (LARGE,)))


class ChangesNeededTest(PlanCase):
    def test_examples(self):
        self.same(changes_needed(LOOSE, (0, 3, 1), (2, 1, 1)), 4)
        self.same(changes_needed(other=[2, 1, 1], one=[0, 3, 1], budget=LOOSE), 4)
        self.same(changes_needed(TIGHT, (0, 3, 1), (2, 1, 1)), None)
        self.same(changes_needed(TIGHT, (0, 3, 1), (0, 3, 1)), 0)
        self.same(changes_needed(LOOSE, (0, 3, 1), (1, 3, 1)), 1)

    def test_by_all_walks(self):
        for budget, rows in small_budgets():
            for one, other in itertools.product(rows[:30], repeat=2):
                if len(reference.apart(one, other)) > 2:
                    self.refuses(Refused, 0, changes_needed, budget, one, other)
                else:
                    self.same(changes_needed(budget, one, other), changes(rows, one, other))

    def test_wider_budgets_by_all_walks(self):
        for caps, low, slack in itertools.product(([8, 6], [5, 9]), (0, 4, 7, 10), (0, 1, 2, 3, 5)):
            rows = budget_rows(caps, low, low + slack)
            budget = Budget(caps, low, low + slack)
            for one, other in itertools.permutations(rows[::2], 2):
                self.same(changes_needed(budget, one, other), changes(rows, one, other))

    def test_refused_behind_the_states(self):
        self.refuses(Refused, 0, changes_needed, LOOSE, (0, 3, 1), (2, 2, 0))
        self.refuses(Refused, 0, changes_needed, Budget([1] * 12, 0, 12), [0] * 12, [1] * 12)
        self.refuses(InvalidState, 1, changes_needed, LOOSE, (0, 3, 1), (1, 1, 0))
        self.refuses(InvalidState, 0, changes_needed, LOOSE, (0, 3, 2), (1, 1, 0))

    def test_at_the_limits(self):
        # What is so for small numbers goes on.
        for size in (1, 2, 3, 6):
            budget = Budget([size, size], size, size + 1)
            rows = budget_rows((size, size), size, size + 1)
            self.same(changes(rows, (size, 0), (0, size)), 2 * size)
            self.same(changes_needed(budget, (size, 0), (0, size)), 2 * size)
        budget = Budget([LARGE, LARGE] + [LARGE] * 10, LARGE, LARGE + 1)
        rest = (0,) * 10
        self.same(changes_needed(budget, (LARGE, 0) + rest, (0, LARGE) + rest), 2 * LARGE)
        self.same(changes_needed(budget, rest + (LARGE, 0), rest + (0, LARGE)), 2 * LARGE)
        self.same(changes_needed(Budget([LARGE] * 2, LARGE, LARGE), (LARGE, 0), (0, LARGE)), None)
        self.same(changes_needed(Budget([LARGE] * 2, 0, 2 * LARGE), (LARGE, 0), (0, LARGE)), 2)
        self.same(changes_needed(Budget([LARGE] * 2, LARGE - 1, LARGE), as_lists((LARGE, 0)), (LARGE - 1, 0)), 1)
        self.same(changes_needed(Budget([LARGE] * 2, 1, 1 + LARGE // 3), (1, 0), (0, 1)), 2)


if __name__ == "__main__":
    unittest.main()
