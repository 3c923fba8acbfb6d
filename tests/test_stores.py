"""Points [1], [2], [5], [6] and [8]: stores, states, lots, neighbours."""

import random
import unittest
from collections import namedtuple

from bothplans.errors import InvalidLot, InvalidState, InvalidStore
from bothplans.stores import (
    Store, agreeing, checked_lot, checked_state, neighbours, other_keys, view_of,
)
from tests import reference
from tests.support import (
    PlanCase, Unfriendly, as_lists, full_store, limit_stores, no_entries, no_numbers, no_sequences, small_stores,
)

SUMS = Store([3, 3], [(0, 2), (1, 1), (2, 0)])
SQUARE = full_store(2, 2)


class StoreTest(PlanCase):
    def test_attributes(self):
        store = Store([3, 1, 2], [(2, 0, 1), (0, 0, 0)])
        self.same(store.key_count, 3)
        self.same(store.sizes, (3, 1, 2))
        self.same(store.states, ((0, 0, 0), (2, 0, 1)))

    def test_attributes_are_set_on_the_object(self):
        for name in ("key_count", "sizes", "states"):
            self.assertIn(name, vars(SUMS))

    def test_states_in_any_order_and_also_twice(self):
        rows = [(0, 2), (1, 1), (2, 0)]
        chance = random.Random(5)
        for _ in range(20):
            told = rows + chance.choices(rows, k=4)
            chance.shuffle(told)
            self.same(Store([3, 3], told).states, SUMS.states)
        self.same(Store([12], [[k % 12] for k in range(100)]).states, tuple((k,) for k in range(12)))

    def test_lists_and_tuples_alike(self):
        for sizes in ([3, 3], (3, 3)):
            for states in ([(0, 2), [2, 0], (1, 1)], ((0, 2), (2, 0), [1, 1]), [[0, 2], [2, 0], [1, 1]]):
                store = Store(sizes, states)
                self.same(store.sizes, (3, 3))
                self.same(store.states, SUMS.states)

    def test_by_name(self):
        self.assertEqual(Store(states=[(0, 2), (1, 1), (2, 0)], sizes=[3, 3]), SUMS)

    def test_one_state_and_one_key(self):
        store = Store([1], [[0]])
        self.same((store.key_count, store.sizes, store.states), (1, (1,), ((0,),)))

    def test_sizes_that_are_none(self):
        for sizes in no_sequences() + [[], (), [0], [2, 0], [2, -1], [2, True], [True], [2.0], ["2"], [[2]], [None]]:
            self.refuses(InvalidStore, 0, Store, sizes, [(0, 0)])
        for number in no_numbers():
            self.refuses(InvalidStore, 0, Store, [2, number], [(0, 0)])

    def test_states_that_are_none(self):
        for states in no_sequences() + [[], ()]:
            self.refuses(InvalidStore, 1, Store, [2, 2], states)

    def test_an_entry_that_is_no_state(self):
        wrong = no_entries() + [(), (0,), (0, 0, 0), (2, 0), (0, 2), (-1, 0), (0, -1), (True, 0), (0, False), (0.0, 0),
                                ("0", 0), ((0, 0), 0), (None, 0), [0, Unfriendly()]]
        for entry in wrong:
            self.refuses(InvalidStore, 2, Store, [2, 2], [entry])
            self.refuses(InvalidStore, 4, Store, [2, 2], [(0, 0), [1, 1], entry, entry])

    def test_the_first_wrong_thing_is_told(self):
        self.refuses(InvalidStore, 0, Store, [], [])
        self.refuses(InvalidStore, 0, Store, [0], None)
        self.refuses(InvalidStore, 0, Store, None, [()])
        self.refuses(InvalidStore, 1, Store, [2], [])
        self.refuses(InvalidStore, 3, Store, [2], [[0], [2], [3]])

    def test_what_is_passed_is_neither_changed_nor_kept(self):
        sizes, states = [3, 3], [[2, 0], [0, 2], [1, 1], [0, 2]]
        store = Store(sizes, states)
        self.assertEqual((sizes, states), ([3, 3], [[2, 0], [0, 2], [1, 1], [0, 2]]))
        sizes[0] = 9
        states[0][0] = 1
        states.append([5, 5])
        self.same((store.key_count, store.sizes, store.states), (2, (3, 3), SUMS.states))
        self.same(checked_state(store, [2, 0]), (2, 0))
        self.refuses(InvalidState, 0, checked_state, store, [1, 0])

    def test_equal_if_sizes_and_states_are(self):
        self.assertTrue(SUMS == Store((3, 3), ([2, 0], [1, 1], [0, 2], [0, 2])))
        self.assertFalse(SUMS != Store((3, 3), ([2, 0], [1, 1], [0, 2])))
        self.assertTrue(SUMS != Store([3, 4], SUMS.states))
        self.assertTrue(SUMS != Store([3, 3], SUMS.states[:2]))
        self.assertFalse(Store([2], [[0]]) == Store([1], [[0]]))

    def test_equal_to_nothing_of_another_kind(self):
        class Alike:
            key_count, sizes, states = SUMS.key_count, SUMS.sizes, SUMS.states

        class Anything:
            def __eq__(self, other):
                return True

        for value in (None, 0, (), SUMS.sizes, SUMS.states, (SUMS.sizes, SUMS.states), "store", Store, Alike(),
                      Anything(), vars(SUMS)):
            self.assertIs(SUMS == value, False)
            self.assertIs(SUMS != value, True)

    def test_at_the_limits(self):
        for store in limit_stores():
            self.assertEqual(store.key_count, 8)
            again = Store(list(store.sizes), as_lists(store.states)[::-1])
            self.assertEqual(again, store)
            self.assertEqual(list(store.states), sorted(set(store.states)))

    def test_beyond_the_limits_nothing_is_refused(self):
        store = Store([10 ** 30] + [9] * 9, [[10 ** 29 + k] + [8] * 9 for k in range(400)])
        self.assertEqual(len(store.states), 400)
        self.assertEqual(store.key_count, 10)


class StateTest(PlanCase):
    def test_a_state_as_a_tuple(self):
        for value in ([0, 2], (0, 2)):
            self.same(checked_state(SUMS, value), (0, 2))
        self.same(checked_state(store=SUMS, value=[2, 0]), (2, 0))
        self.same(checked_state(SUMS, namedtuple("Row", "a b")(1, 1)), (1, 1))

    def test_what_is_no_allowed_state(self):
        for value in no_entries() + [(), (0,), (0, 2, 0), (0, 0), (2, 2), (3, 0), (-1, 2), (0, True), (False, 2),
                                     (0.0, 2), (0, 2.0), ("0", 2), [[0], 2], (0, Unfriendly())]:
            self.refuses(InvalidState, 0, checked_state, SUMS, value)
        self.refuses(InvalidState, 0, checked_state, SQUARE, (True, False))

    def test_all_states_and_only_these(self):
        for store in small_stores():
            for state in store.states:
                self.same(checked_state(store, list(state)), state)
            for size in range(max(store.sizes) + 2):
                row = (size,) * store.key_count
                if row not in store.states:
                    self.refuses(InvalidState, 0, checked_state, store, row)


class LotTest(PlanCase):
    def test_keys_in_any_order(self):
        store = full_store(2, 2, 2)
        for value in ([2, 0], (0, 2), [0, 2], (2, 0)):
            self.same(checked_lot(store, value), (0, 2))
        self.same(checked_lot(store, []), ())
        self.same(checked_lot(store, ()), ())
        self.same(checked_lot(store, [2, 1, 0]), (0, 1, 2))
        self.same(checked_lot(store=store, value=(1,)), (1,))

    def test_no_sequence(self):
        for value in no_sequences():
            self.refuses(InvalidLot, 0, checked_lot, SQUARE, value)

    def test_the_first_entry_that_does_not_fit(self):
        for number in no_numbers() + [2, 3, 10 ** 20]:
            self.refuses(InvalidLot, 0, checked_lot, SQUARE, [number])
            self.refuses(InvalidLot, 1, checked_lot, SQUARE, [1, number])
            self.refuses(InvalidLot, 2, checked_lot, SQUARE, (1, 0, number))
            self.refuses(InvalidLot, 1, checked_lot, SQUARE, [0, number, 0])
        self.refuses(InvalidLot, 1, checked_lot, SQUARE, [0, 0])
        self.refuses(InvalidLot, 2, checked_lot, SQUARE, [1, 0, 1, 5])
        self.refuses(InvalidLot, 2, checked_lot, SQUARE, (0, 1, 0, 1))
        self.refuses(InvalidLot, 1, checked_lot, SQUARE, (1, True))

    def test_agreeing(self):
        self.same(agreeing(SUMS, (0, 2), (2, 0)), ())
        self.same(agreeing(SQUARE, [0, 1], (1, 1)), (1,))
        self.same(agreeing(SQUARE, (0, 1), (0, 1)), (0, 1))
        self.same(agreeing(store=SQUARE, other=(0, 0), one=(0, 1)), (0,))
        for store in small_stores():
            for one, other in reference.pairs(store):
                lot = tuple(key for key in range(store.key_count) if reference.agree(one, other, [key]))
                self.same(agreeing(store, one, list(other)), lot)
                self.same(agreeing(store, other, one), lot)

    def test_agreeing_asks_for_states(self):
        for value in no_entries() + [(0, 0), (0, True), (2, 0, 0)]:
            self.refuses(InvalidState, 0, agreeing, SUMS, value, (0, 2))
            self.refuses(InvalidState, 1, agreeing, SUMS, (0, 2), value)
            self.refuses(InvalidState, 0, agreeing, SUMS, value, value)

    def test_other_keys(self):
        store = full_store(2, 2, 2)
        self.same(other_keys(store, []), (0, 1, 2))
        self.same(other_keys(store, [2, 0]), (1,))
        self.same(other_keys(store=store, lot=(1, 0, 2)), ())
        self.refuses(InvalidLot, 1, other_keys, store, [1, 1])
        self.refuses(InvalidLot, 1, other_keys, store, [1, True])
        self.refuses(InvalidLot, 0, other_keys, store, None)

    def test_view_of(self):
        store = Store([5, 6, 7], [(4, 5, 6), (1, 2, 3)])
        self.same(view_of(store, [4, 5, 6], [2, 0]), (4, 6))
        self.same(view_of(store, (1, 2, 3), ()), ())
        self.same(view_of(store, (1, 2, 3), [2, 1, 0]), (1, 2, 3))
        self.same(view_of(lot=(1,), state=(1, 2, 3), store=store), (2,))

    def test_view_of_asks_for_the_state_first(self):
        self.refuses(InvalidState, 0, view_of, SUMS, (0, 0), [7])
        self.refuses(InvalidState, 0, view_of, SUMS, None, None)
        self.refuses(InvalidLot, 0, view_of, SUMS, (0, 2), None)
        self.refuses(InvalidLot, 1, view_of, SUMS, [0, 2], [0, 7])


class NeighboursTest(PlanCase):
    def test_examples(self):
        self.same(neighbours(SUMS, (1, 1)), ())
        self.same(neighbours(SQUARE, [1, 0]), ((0, 0), (1, 1)))
        self.same(neighbours(store=Store([4], [[3], [1], [0]]), state=[1]), ((0,), (3,)))
        self.same(neighbours(Store([1, 1], [(0, 0)]), (0, 0)), ())

    def test_they_differ_in_just_one_key(self):
        for store in small_stores():
            for state in store.states:
                wanted = tuple(other for other in store.states if reference.are_neighbours(state, other))
                self.same(neighbours(store, state), wanted)

    def test_no_state(self):
        for value in no_entries() + [(0, 0), (0, True)]:
            self.refuses(InvalidState, 0, neighbours, SUMS, value)

    def test_at_the_limits(self):
        for store in limit_stores():
            state = store.states[150]
            wanted = tuple(other for other in store.states if reference.are_neighbours(state, other))
            self.same(neighbours(store, state), wanted)


if __name__ == "__main__":
    unittest.main()
