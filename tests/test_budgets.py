"""Point [35]: budgets, their states, spans and stores."""

import itertools
import random
import unittest

from bothplans.budgets import Budget, budget_state, budget_store, value_span
from bothplans.errors import InvalidLot, InvalidState, InvalidStore
from bothplans.stores import Store
from tests.support import PlanCase, Unfriendly, no_entries, no_numbers, no_sequences
from tests.systems import budget_rows, caps_and_spans

TIGHT, LOOSE = Budget((2, 3, 1), 4, 4), Budget((2, 3, 1), 4, 5)
LARGE = 10 ** 30 - 1


class BudgetTest(PlanCase):
    def test_attributes(self):
        self.same((TIGHT.key_count, TIGHT.caps, TIGHT.low, TIGHT.high), (3, (2, 3, 1), 4, 4))
        beyond = Budget(high=LARGE, low=0, caps=[2, 3, 1])
        self.same((beyond.caps, beyond.low, beyond.high), ((2, 3, 1), 0, 6))
        for name in ("key_count", "caps", "low", "high"):
            self.assertIn(name, vars(TIGHT))

    def test_least_and_greatest_sum_of_a_state(self):
        for caps, low, high in caps_and_spans():
            states = budget_rows(caps, low, high)
            if not states:
                self.refuses(InvalidStore, 3, Budget, caps, low, high)
                continue
            budget = Budget(tuple(caps), low, high)
            sums = [sum(state) for state in states]
            self.same((budget.key_count, budget.caps, budget.low, budget.high), (len(caps), tuple(caps), min(sums), max(sums)))

    def test_equal(self):
        self.assertEqual(Budget([2, 3, 1], 4, 6), Budget((2, 3, 1), 4, LARGE))
        self.assertIs(TIGHT == Budget([2, 3, 1], 4, 4), True)
        for other in (LOOSE, Budget((2, 3, 1), 3, 4), Budget((3, 2, 1), 4, 4), Budget((2, 3, 1, 0), 4, 4)):
            self.assertIs(TIGHT == other, False)
            self.assertIs(TIGHT != other, True)
        for value in no_sequences()[:-1] + [(2, 3, 1), ((2, 3, 1), 4, 4), budget_store(TIGHT)]:
            if not isinstance(value, Unfriendly):
                self.assertIs(TIGHT == value, False)

    def test_the_first_thing_that_is_wrong(self):
        for caps in no_sequences() + [[], (), [-1], [2, True], [2, None], [2.0], ["2"], [[2]], [Unfriendly()]]:
            self.refuses(InvalidStore, 0, Budget, caps, None, None)
        for number in no_numbers():
            self.refuses(InvalidStore, 0, Budget, [1, number], 0, 0)
            self.refuses(InvalidStore, 1, Budget, [1], number, number)
            self.refuses(InvalidStore, 1, Budget, [1], number, 0)
            self.refuses(InvalidStore, 2, Budget, [1], 7, number)
        self.refuses(InvalidStore, 3, Budget, [1, 2], 4, 9)
        self.refuses(InvalidStore, 3, Budget, [1, 2], 2, 1)
        self.refuses(InvalidStore, 3, Budget, [0], 1, 1)

    def test_what_is_passed_is_neither_changed_nor_kept(self):
        caps = [2, 3, 1]
        budget = Budget(caps, 4, 4)
        self.assertEqual(caps, [2, 3, 1])
        caps.append(7)
        self.assertEqual(budget, TIGHT)
        self.same(budget.caps, (2, 3, 1))

    def test_at_the_limits(self):
        budget = Budget([LARGE] * 12, LARGE, LARGE)
        self.same((budget.low, budget.high), (LARGE, LARGE))
        self.same(value_span(budget, 11), (0, LARGE))
        self.same(budget_state(budget, [LARGE] + [0] * 11), (LARGE,) + (0,) * 11)
        self.refuses(InvalidState, 0, budget_state, budget, [LARGE, 1] + [0] * 10)
        self.same(value_span(Budget([LARGE, 5], LARGE - 1, LARGE), 0), (LARGE - 6, LARGE))
        self.same(value_span(Budget([LARGE, 5], LARGE, LARGE), 1), (0, 5))
        self.same(value_span(Budget([3, LARGE - 1], LARGE, LARGE), 0), (1, 3))


class StatesTest(PlanCase):
    def test_examples(self):
        self.same(value_span(TIGHT, 1), (1, 3))
        self.same(value_span(key=2, budget=LOOSE), (0, 1))
        self.same(budget_state(value=[2, 1, 1], budget=TIGHT), (2, 1, 1))
        self.same(budget_store(budget=TIGHT).states, ((0, 3, 1), (1, 2, 1), (1, 3, 0), (2, 1, 1), (2, 2, 0)))

    def test_all_states_and_spans(self):
        for caps, low, high in caps_and_spans():
            states = budget_rows(caps, low, high)
            if states:
                budget = Budget(caps, low, high)
                for key in range(len(caps)):
                    values = [state[key] for state in states]
                    self.same(value_span(budget, key), (min(values), max(values)))
                    self.assertEqual(sorted(set(values)), list(range(min(values), max(values) + 1)))
                store = budget_store(budget)
                self.assertIs(type(store), Store)
                self.same((store.sizes, store.states), (tuple(cap + 1 for cap in caps), tuple(states)))
                for row in itertools.product(*[range(cap + 2) for cap in caps]):
                    if row in states:
                        self.same(budget_state(budget, list(row)), row)
                    else:
                        self.refuses(InvalidState, 0, budget_state, budget, row)

    def test_what_is_no_state(self):
        for value in no_entries() + [(), (2, 2), (2, 2, 0, 0), (2, 3, 0), (2, 1, 0), (1, 4, -1), (3, 1, 0), (2, 1, True), (2, 2, False),
                                     (2.0, 1, 1), (2, None, 1), ((2,), 1, 1), [2, 1, Unfriendly()]]:
            self.refuses(InvalidState, 0, budget_state, TIGHT, value)

    def test_what_is_no_key(self):
        for value in no_sequences() + no_numbers() + [3, 10 ** 30]:
            if type(value) is not int or value < 0 or value > 2:
                self.refuses(InvalidLot, 0, value_span, TIGHT, value)

    def test_stores_at_the_limits(self):
        chance = random.Random(35)
        for caps, low, high in (([7] * 8, 3, 3), ([7] * 8, 54, 56), ([1] * 8, 0, 8), ([7] * 8, 2, 3), ([7, 7, 3, 0, 0, 0, 0, 0], 0, 99)):
            if len(caps) == 8 and (low, high) == (2, 3):
                caps = [chance.randrange(6, 8) for _ in range(8)]
            store = budget_store(Budget(caps, low, high))
            self.assertLessEqual(len(store.states), 300)
            self.assertTrue(all(low <= sum(state) <= high for state in store.states))
        self.same(len(budget_store(Budget([7] * 8, 3, 3)).states), 120)
        self.same(len(budget_store(Budget([7] * 8, 54, 56)).states), 45)


if __name__ == "__main__":
    unittest.main()
