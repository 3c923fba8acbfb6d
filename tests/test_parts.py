"""Points [24] and [25]: views as stores, stores side by side, parts."""

import itertools
import unittest

from bothplans.bundles import finest
from bothplans.chains import is_joined
from bothplans.errors import InvalidLot, InvalidQuestion, Refused
from bothplans.least import least_lots
from bothplans.parts import is_parted_by, led_back, parts, side_by_side, view_store
from bothplans.stores import Store
from bothplans.tyings import is_coarser
from tests import reference
from tests.support import PlanCase, full_store, limit_stores, no_entries, no_sequences, small_stores, some_questions

SOME = Store([3, 2], [(0, 0), (2, 0), (2, 1), (1, 1)])
SUMS = Store([3, 3], [(0, 2), (1, 1), (2, 0)])
CUBE = full_store(2, 2, 2)


class StoreCase(PlanCase):
    def same_store(self, store, sizes, states):
        self.assertIs(type(store), Store)
        self.same((store.key_count, store.sizes, store.states), (len(sizes), sizes, states))


class ViewStoreTest(StoreCase):
    def test_examples(self):
        self.same_store(view_store(SOME, [0]), (3,), ((0,), (1,), (2,)))
        self.same_store(view_store(lot=[1], store=SOME), (2,), ((0,), (1,)))
        self.same_store(view_store(SOME, [1, 0]), SOME.sizes, SOME.states)
        self.same(led_back(SOME, [1], (5, 7)), (5, 7, 5, 7))
        self.same(led_back(question=[4, 5, 6], lot=(0,), store=SOME), (4, 5, 6, 6))
        self.same(led_back(SOME, (1, 0), [1, 2, 3, 4]), (1, 2, 3, 4))

    def test_small_stores(self):
        for store in list(small_stores())[::2]:
            for lot in reference.lots(store.key_count)[1:]:
                made = view_store(store, list(lot)[::-1])
                states = tuple(sorted(reference.views(store.states, lot)))
                self.same_store(made, tuple(store.sizes[key] for key in lot), states)
                for question in some_questions(made):
                    wanted = tuple(question[states.index(tuple(state[key] for key in lot))] for state in store.states)
                    self.same(led_back(store, list(lot)[::-1], list(question)), wanted)

    def test_view_stores_of_joined_stores(self):
        for store in list(small_stores())[::3]:
            if reference.unjoined(store) is None:
                for lot in reference.lots(store.key_count)[1:]:
                    made = view_store(store, lot)
                    self.same(is_joined(made), True)
                    for question in some_questions(made, 1):
                        (least,) = least_lots(made, question)
                        numbers = tuple(lot[key] for key in least)
                        self.same(least_lots(store, led_back(store, lot, question)), (numbers,))

    def test_errors_from_left_to_right(self):
        for function, more in ((view_store, ()), (led_back, ((0, 0),)), (led_back, (None,))):
            for lot in no_sequences():
                self.refuses(InvalidLot, 0, function, SOME, lot, *more)
            self.refuses(InvalidLot, 1, function, SOME, [1, True], *more)
            self.refuses(InvalidLot, 1, function, SOME, [1, 1], *more)
            self.refuses(InvalidLot, 0, function, SOME, [2, 2], *more)
            for lot in ([], ()):
                self.refuses(Refused, 0, function, SOME, lot, *more)
        for question in no_sequences() + [(0,), (0, 0, 0, 0), (0, -1, 0), (0, 0, True), (0, None, 0)]:
            self.refuses(InvalidQuestion, 0, led_back, SOME, [0], question)

    def test_at_the_limits(self):
        for store in limit_stores():
            for lot in ((0,), (1, 3, 5, 7), tuple(range(8))):
                made = view_store(store, lot)
                self.same(made.states, tuple(sorted(reference.views(store.states, lot))))
                question = tuple(range(len(made.states)))
                self.same(len(set(led_back(store, lot, question))), len(made.states))


class PartsTest(StoreCase):
    def test_examples(self):
        made = side_by_side(SOME, SUMS)
        states = tuple(one + other for one in SOME.states for other in SUMS.states)
        self.same_store(made, (3, 2, 3, 3), states)
        self.same_store(side_by_side(other=SOME, one=Store([1], [[0]])), (1, 3, 2), tuple((0,) + one for one in SOME.states))
        self.same(parts(made), ((0, 1), (2, 3)))
        self.same(parts(store=CUBE), ((0,), (1,), (2,)))
        self.same(is_parted_by(made, [[3, 2], [1, 0]]), True)
        self.same(is_parted_by(tying=[[0, 2], [1, 3]], store=made), False)
        self.same(is_parted_by(made, [[0], [1], [2, 3]]), False)
        self.same(parts(Store([2, 3], [(1, 2)])), ((0,), (1,)))
        self.same(parts(Store([4], [[3], [1]])), ((0,),))

    def test_all_tyings_of_small_stores(self):
        for store in list(small_stores())[::2]:
            wanted = reference.parts(store.states, store.key_count, store.sizes)
            for tying in reference.tyings(store.key_count):
                self.same(is_parted_by(store, [list(bundle)[::-1] for bundle in tying][::-1]), tying in wanted)
            found = parts(store)
            self.assertIn(found, wanted)
            for tying in wanted:
                self.assertTrue(reference.is_coarser(tying, found))

    def test_facts(self):
        for store in list(small_stores())[::2]:
            found = parts(store)
            self.same(is_coarser(store, found, finest(store)), True)
            self.assertEqual(is_joined(store), all(is_joined(view_store(store, part)) for part in found))

    def test_side_by_side_facts(self):
        stores = [SOME, SUMS, Store([2], [[1]]), full_store(2, 2), Store([2, 2, 2], [(0, 0, 0), (1, 1, 0), (1, 1, 1)])]
        for one, other in itertools.product(stores, repeat=2):
            made = side_by_side(one, other)
            for function in (parts, finest):
                behind = tuple(tuple(key + one.key_count for key in bundle) for bundle in function(other))
                self.same(function(made), function(one) + behind)

    def test_more_keys_and_states_than_a_store_that_is_passed(self):
        one, other = limit_stores()[:2]
        made = side_by_side(one, other)
        self.same((made.key_count, made.sizes, len(made.states)), (16, one.sizes + other.sizes, len(one.states) * len(other.states)))
        self.same(made.states[0], one.states[0] + other.states[0])

    def test_no_tying(self):
        for value in no_sequences():
            self.refuses(InvalidLot, 0, is_parted_by, CUBE, value)
        for entry in no_entries():
            self.refuses(InvalidLot, 1, is_parted_by, CUBE, [[0, 1], entry])
        self.refuses(InvalidLot, 2, is_parted_by, CUBE, [[0], [1]])

    def test_at_the_limits(self):
        for store in limit_stores():
            found = parts(store)
            self.same(is_parted_by(store, found), True)
            self.same(is_coarser(store, found, finest(store)), True)
            for part in found:
                if len(part) > 1:
                    self.same(parts(view_store(store, part)), (tuple(range(len(part))),))


if __name__ == "__main__":
    unittest.main()
