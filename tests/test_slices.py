"""Point [23]: slices, and stores in one piece."""

import itertools
import unittest

from bothplans.chains import is_joined
from bothplans.errors import InvalidLot, InvalidState, Refused
from bothplans.slices import broken_slice, is_in_one_piece, slice_of
from bothplans.stores import Store
from tests import reference
from tests.support import PlanCase, full_store, limit_stores, no_entries, no_numbers, no_sequences, small_stores

SOME = Store([3, 2], [(0, 0), (2, 0), (2, 1), (1, 1)])
SUMS = Store([3, 3], [(0, 2), (1, 1), (2, 0)])


class SliceTest(PlanCase):
    def same_store(self, store, sizes, states):
        self.assertIs(type(store), Store)
        self.same((store.sizes, store.states), (sizes, states))

    def test_examples(self):
        self.same(slice_of(SOME, [0], (2,)).states, ((0,), (1,)))
        self.same_store(slice_of(values=[1], lot=(1,), store=SOME), (3,), ((1,), (2,)))
        cube = full_store(2, 3, 4)
        self.same_store(slice_of(cube, [2, 0], [1, 3]), (3,), ((0,), (1,), (2,)))
        self.same_store(slice_of(cube, (1,), (2,)), (2, 4), tuple(itertools.product(range(2), range(4))))

    def test_by_the_empty_lot(self):
        for lot, values in itertools.product(([], ()), repeat=2):
            self.same_store(slice_of(SOME, lot, values), SOME.sizes, SOME.states)
            self.same_store(slice_of(Store([4], [[3]]), lot, values), (4,), ((3,),))

    def test_all_slices_of_small_stores(self):
        for store in list(small_stores())[::2]:
            for lot in reference.lots(store.key_count)[:]:
                rows = list(itertools.product(*[range(store.sizes[key]) for key in lot]))
                for values in rows:
                    wanted = reference.slice_states(store, lot, values)
                    if len(lot) == store.key_count:
                        self.refuses(Refused, 0, slice_of, store, lot, values)
                    elif wanted:
                        sizes = tuple(size for key, size in enumerate(store.sizes) if key not in lot)
                        self.same_store(slice_of(store, list(lot)[::-1], list(values)), sizes, wanted)
                    else:
                        self.refuses(Refused, 1, slice_of, store, lot, values)

    def test_refusals_in_their_order(self):
        self.refuses(InvalidLot, 1, slice_of, SUMS, [0, 2], None)
        self.refuses(InvalidLot, 0, slice_of, SUMS, None, (0, 0))
        self.refuses(Refused, 0, slice_of, SUMS, [1, 0], None)
        self.refuses(Refused, 0, slice_of, SUMS, [1, 0], (7, 7))
        self.refuses(Refused, 0, slice_of, Store([2], [[0]]), [0], ())
        self.refuses(InvalidState, 0, slice_of, SUMS, [1], (3,))
        self.refuses(Refused, 1, slice_of, Store([3, 3], [(0, 2), (2, 0)]), [1], (1,))

    def test_values_that_are_none(self):
        for values in no_sequences():
            self.refuses(InvalidState, 0, slice_of, SUMS, [0], values)
            self.refuses(InvalidState, 0, slice_of, SUMS, [], values)
        for entry in no_entries() + no_numbers():
            if not (type(entry) is int and 0 <= entry < 3):
                self.refuses(InvalidState, 0, slice_of, SUMS, [0], [entry])
        for values in ((), (0, 0), [3], [-1], [True], ((0,),)):
            self.refuses(InvalidState, 0, slice_of, SUMS, [0], values)
        self.refuses(InvalidState, 0, slice_of, SUMS, [], [0])
        # The values stand in the order of the ascending lot, however the lot is told.
        self.refuses(InvalidState, 0, slice_of, full_store(2, 3, 2), [1, 0], (2, 0))

    def test_slices_of_joined_stores_are_joined(self):
        for store in list(small_stores())[::3]:
            if reference.unjoined(store) is None:
                for lot in reference.lots(store.key_count):
                    if len(lot) < store.key_count:
                        for values in reference.views(store.states, lot):
                            self.same(is_joined(slice_of(store, lot, values)), True)

    def test_at_the_limits(self):
        for store in limit_stores():
            for lot in ((), (0,), (7, 2), (0, 1, 2, 4, 5, 6, 7)):
                values = tuple(store.states[-1][key] for key in sorted(lot))
                made = slice_of(store, lot, values)
                self.same(made.states, reference.slice_states(store, tuple(sorted(lot)), values))


class PieceTest(PlanCase):
    def test_examples(self):
        self.same(is_in_one_piece(Store([2, 2], [(0, 0), (1, 1)])), False)
        self.same(is_in_one_piece(store=SOME), True)
        self.same(is_in_one_piece(Store([2, 2], [(0, 1)])), True)
        self.same(is_in_one_piece(Store([9], [[8], [0]])), True)
        self.assertIsNone(broken_slice(SOME))
        self.same(broken_slice(store=SUMS), ((), ()))
        self.same(broken_slice(Store([2, 2, 2], [(0, 0, 0), (0, 0, 1), (0, 1, 1), (1, 1, 1), (1, 1, 0)])), ((2,), (0,)))

    def test_small_stores(self):
        for store in small_stores():
            self.same(is_in_one_piece(store), reference.are_in_one_piece(store.states))
            wanted = None
            for lot in reference.lots(store.key_count):
                for values in sorted(reference.views(store.states, lot)):
                    states = reference.slice_states(store, lot, values)
                    if wanted is None and not reference.are_in_one_piece(states):
                        wanted = (lot, values)
            self.same(broken_slice(store), wanted)

    def test_a_store_is_joined_exactly_if_no_slice_is_broken(self):
        for store in small_stores():
            self.assertEqual(broken_slice(store) is None, reference.unjoined(store) is None)

    def test_at_the_limits(self):
        for store in limit_stores():
            found = broken_slice(store)
            self.assertEqual(found is None, is_joined(store))
            self.same(is_in_one_piece(store), reference.are_in_one_piece(store.states))
            if found is not None:
                self.assertFalse(reference.are_in_one_piece(reference.slice_states(store, *found)))


if __name__ == "__main__":
    unittest.main()
