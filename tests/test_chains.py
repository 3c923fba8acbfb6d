"""Point [15]: chains and joined stores."""

import itertools
import random
import unittest

from bothplans.chains import chain, is_chain, is_joined, unjoined
from bothplans.errors import InvalidState
from bothplans.stores import Store
from tests import reference
from tests.support import PlanCase, all_rows, as_lists, full_store, limit_stores, no_entries, small_stores

SUMS = Store([3, 3], [(0, 2), (1, 1), (2, 0)])
SQUARE = full_store(2, 2)
ONE = Store([2, 3], [(1, 2)])
# From (0, 0) to (1, 1, ..) key 0 has to go by way of 2, as (1, 0, ..) is not allowed.
BENT = Store([3, 2, 2], [(0, 0, 0), (2, 0, 0), (2, 1, 0), (1, 1, 0), (0, 0, 1), (0, 1, 1)])


class ChainTest(PlanCase):
    def test_examples(self):
        self.same(chain(SQUARE, (0, 0), (0, 1)), ((0, 0), (0, 1)))
        self.assertIsNone(chain(SUMS, (0, 2), (1, 1)))
        self.assertIn(chain(SQUARE, [0, 0], [1, 1]), (((0, 0), (0, 1), (1, 1)), ((0, 0), (1, 0), (1, 1))))
        self.same(chain(BENT, (0, 0, 0), (1, 1, 0)), ((0, 0, 0), (2, 0, 0), (2, 1, 0), (1, 1, 0)))

    def test_keys_in_which_the_two_agree_are_never_touched(self):
        around = Store([2, 2, 2], [(0, 0, 0), (0, 0, 1), (0, 1, 1), (1, 1, 1), (1, 1, 0)])
        self.assertIsNone(chain(around, (0, 0, 0), (1, 1, 0)))
        self.same(len(chain(around, (0, 0, 0), (1, 1, 1))), 4)

    def test_from_a_state_to_itself(self):
        for store in (SUMS, SQUARE, ONE, BENT):
            for state in store.states:
                self.same(chain(store, list(state), state), (state,))
                self.same(is_chain(store, state, state, (state,)), True)
                self.same(is_chain(store, state, state, (state, state)), False)
                for other in store.states:
                    self.same(is_chain(store, state, state, (state, other, state)), False)

    def test_none_or_one_with_the_fewest_states(self):
        for store in small_stores():
            for one, other in itertools.product(store.states, repeat=2):
                count = reference.chain_length(store, one, other)
                found = chain(store, one, other)
                if count is None:
                    self.assertIsNone(found)
                else:
                    self.assertEqual(len(found), count)
                    self.assertTrue(reference.is_chain(store, one, other, found))
                    self.assertEqual(repr(found), repr(tuple(map(tuple, found))))
                    self.same(is_chain(store, one, other, found), True)
                    self.same(is_chain(store, other, one, found[::-1]), True)

    def test_by_name(self):
        self.same(chain(other=[0, 1], one=[0, 0], store=SQUARE), ((0, 0), (0, 1)))
        self.same(is_chain(value=((0, 0), (0, 1)), other=[0, 1], one=[0, 0], store=SQUARE), True)

    def test_no_states(self):
        for value in no_entries() + [(0, 0), (0, True), (0, 2, 0)]:
            self.refuses(InvalidState, 0, chain, SUMS, value, (0, 2))
            self.refuses(InvalidState, 1, chain, SUMS, (0, 2), value)
            self.refuses(InvalidState, 0, chain, SUMS, value, value)
            self.refuses(InvalidState, 0, is_chain, SUMS, value, value, ())
            self.refuses(InvalidState, 1, is_chain, SUMS, [0, 2], value, None)

    def test_at_the_limits(self):
        chance = random.Random(15)
        for store in limit_stores():
            for _ in range(12):
                one, other = chance.choice(store.states), chance.choice(store.states)
                count = reference.chain_length(store, one, other)
                found = chain(store, one, other)
                self.assertEqual(found and len(found), count)
                if found is not None:
                    self.assertTrue(reference.is_chain(store, one, other, found))
                    self.same(is_chain(store, one, other, found), True)

    def test_a_long_one(self):
        # A row of states that winds up through a square of seven by seven.
        rows = [(k // 2, (k + 1) // 2) for k in range(14)]
        store = Store([8, 8], rows)
        self.same(chain(store, (0, 0), (6, 7)), tuple(rows))
        self.same(chain(store, (6, 7), (0, 0)), tuple(rows[::-1]))


class IsChainTest(PlanCase):
    def test_all_short_rows(self):
        stores = [SUMS, SQUARE, Store([3, 2], [(0, 0), (1, 0), (1, 1), (2, 1)]), Store([3], [[0], [1], [2]])]
        for store in stores:
            for count in range(5):
                for value in itertools.product(store.states, repeat=count):
                    for one, other in itertools.product(store.states, repeat=2):
                        wanted = reference.is_chain(store, one, other, value)
                        self.same(is_chain(store, one, other, value), wanted)

    def test_keys_may_change_several_times(self):
        line = Store([4], [[0], [1], [2], [3]])
        self.same(is_chain(line, [0], [3], ((0,), (2,), (0,), (1,), (3,))), True)
        self.same(is_chain(line, [0], [3], ((0,), (3,), (0,), (3,))), True)
        self.same(is_chain(line, [0], [3], ((0,), (3,), (3,))), False)

    def test_rows_that_leave_the_two_states(self):
        cube = full_store(2, 2, 2)
        self.same(is_chain(cube, (0, 0, 0), (0, 1, 1), ((0, 0, 0), (0, 1, 0), (0, 1, 1))), True)
        self.same(is_chain(cube, (0, 0, 0), (0, 0, 1), ((0, 0, 0), (0, 1, 0), (0, 1, 1), (0, 0, 1))), False)

    def test_other_values_are_none(self):
        right = ((0, 0), (0, 1), (1, 1))
        self.same(is_chain(SQUARE, (0, 0), (1, 1), right), True)
        wrong = no_entries() + [
            as_lists(right), list(right), ((0, 0), [0, 1], (1, 1)), right[:2], right[1:], right[::-1], (), (right,),
            ((0, 0), (1, 1)), ((0, 0), (0, True), (1, 1)), ((0, 0), (0, 1.0), (1, 1)), ((0, False), (0, 1), (1, 1)),
            ((0, 0), (0, 2), (1, 2), (1, 1)), ((0, 0), (0, 1), (1, 1), None), ((0, 0), (0,), (1, 1)),
            ((0, 0), (0, 1, 0), (1, 1)), (0, 0), ((0, 0), None, (1, 1)),
        ]
        for value in wrong:
            self.same(is_chain(SQUARE, (0, 0), (1, 1), value), False)


class JoinedTest(PlanCase):
    def test_examples(self):
        self.same(is_joined(SUMS), False)
        self.same(unjoined(SUMS), ((0, 2), (1, 1)))
        self.same(is_joined(store=SQUARE), True)
        self.assertIsNone(unjoined(store=SQUARE))
        self.same(is_joined(ONE), True)
        self.assertIsNone(unjoined(ONE))

    def test_the_first_pair_without_a_chain(self):
        for store in small_stores():
            wanted = reference.unjoined(store)
            self.same(unjoined(store), wanted)
            self.same(is_joined(store), wanted is None)

    def test_downward_closed_stores_are_joined(self):
        chance = random.Random(4)
        for _ in range(30):
            tops = [tuple(chance.randrange(3) for _ in range(4)) for _ in range(4)]
            states = [row for row in all_rows([3] * 4) if any(all(a <= b for a, b in zip(row, top)) for top in tops)]
            self.same(is_joined(Store([3] * 4, states)), True)

    def test_stores_that_keep_a_sum_are_not(self):
        for sizes in ([3, 3], [2, 2, 2], [4, 2, 3]):
            for total in range(sum(sizes) - len(sizes) + 1):
                states = [row for row in all_rows(sizes) if sum(row) == total]
                self.same(is_joined(Store(sizes, states)), len(states) == 1)

    def test_at_the_limits(self):
        scattered, few, wide, full, most = limit_stores()
        for store in (few, wide, full):
            self.same(is_joined(store), True)
            self.assertIsNone(unjoined(store))
        for store in (scattered, most):
            self.same(is_joined(store), False)
            one, other = unjoined(store)
            self.assertIsNone(reference.chain_length(store, one, other))
            before = [pair for pair in reference.pairs(store) if pair < (one, other)]
            for pair in before[::97] + before[-9:]:
                self.assertIsNotNone(chain(store, *pair))


if __name__ == "__main__":
    unittest.main()
