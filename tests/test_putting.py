"""Point [26]: stores put together on common keys."""

import itertools
import unittest

from bothplans.chains import is_joined
from bothplans.errors import InvalidLot, Refused
from bothplans.parts import side_by_side
from bothplans.putting import put_together
from bothplans.stores import Store
from tests import reference
from tests.support import PlanCase, all_stores, full_store, limit_stores, no_numbers, no_entries, no_sequences, some_stores

SOME = Store([3, 2], [(0, 0), (2, 0), (2, 1), (1, 1)])
LINE = Store([3, 2], [(0, 0), (1, 0)])
SQUARE = full_store(2, 2)


def combined(one, other, pairs):
    seconds = [second for _, second in pairs]
    added = [key for key in range(other.key_count) if key not in seconds]
    return tuple(sorted({state + tuple(ending[key] for key in added)
                         for state, ending in itertools.product(one.states, other.states)
                         if all(state[first] == ending[second] for first, second in pairs)}))


def all_pairs(one, other):
    """All ways to make some keys of two stores one and the same."""
    fitting = [(first, second) for first in range(one.key_count) for second in range(other.key_count)
               if one.sizes[first] == other.sizes[second]]
    for count in range(3):
        for pairs in itertools.permutations(fitting, count):
            if len({first for first, _ in pairs}) == len({second for _, second in pairs}) == count:
                yield pairs


class PutTogetherTest(PlanCase):
    def same_store(self, store, sizes, states):
        self.assertIs(type(store), Store)
        self.same((store.key_count, store.sizes, store.states), (len(sizes), sizes, states))

    def test_examples(self):
        self.same_store(put_together(SOME, LINE, [(0, 0)]), (3, 2, 2), ((0, 0, 0), (1, 1, 0)))
        self.same_store(put_together(pairs=((1, 1),), other=LINE, one=SOME), (3, 2, 3),
                        ((0, 0, 0), (0, 0, 1), (2, 0, 0), (2, 0, 1)))
        self.same_store(put_together(SOME, SOME, [(1, 1), (0, 0)]), SOME.sizes, SOME.states)
        self.same_store(put_together(SQUARE, SQUARE, [(0, 1)]), (2, 2, 2), full_store(2, 2, 2).states)

    def test_without_pairs(self):
        for pairs in ([], ()):
            made = put_together(SOME, LINE, pairs)
            self.same_store(made, (3, 2, 3, 2), combined(SOME, LINE, ()))
            self.assertEqual(made, side_by_side(SOME, LINE))

    def test_pairs_that_leave_no_state(self):
        self.refuses(Refused, 0, put_together, SOME, Store([3, 2], [(1, 0)]), [(0, 0), (1, 1)])
        self.refuses(Refused, 0, put_together, Store([2], [[0]]), Store([2], [[1]]), [(0, 0)])

    def test_small_stores(self):
        ones = [SOME, LINE, SQUARE] + list(some_stores(26, [2, 3, 2], [3, 5, 8]))
        for one, other in itertools.product(ones, repeat=2):
            for pairs in all_pairs(one, other):
                wanted = combined(one, other, pairs)
                if not wanted:
                    self.refuses(Refused, 0, put_together, one, other, list(pairs))
                    continue
                seconds = [second for _, second in pairs]
                added = tuple(size for key, size in enumerate(other.sizes) if key not in seconds)
                self.same_store(put_together(one, other, list(pairs)), one.sizes + added, wanted)

    def test_one_pair_of_keys_with_two_values_keeps_joined_stores_joined(self):
        joined = [store for store in list(all_stores([2, 2])) + list(all_stores([3, 2])) if reference.unjoined(store) is None]
        for one, other in itertools.product(joined, repeat=2):
            for first, second in itertools.product(range(2), repeat=2):
                if one.sizes[first] == other.sizes[second] == 2 and combined(one, other, [(first, second)]):
                    self.same(is_joined(put_together(one, other, [(first, second)])), True)

    def test_with_three_values_or_two_pairs_they_need_not_stay_joined(self):
        self.assertTrue(is_joined(SOME) and is_joined(LINE))
        self.same(is_joined(put_together(SOME, LINE, [(0, 0)])), False)
        corner = Store([2, 2, 2], [(0, 0, 0), (1, 0, 0), (1, 1, 0)])
        bend = Store([2, 2, 2], [(0, 0, 0), (0, 1, 0), (1, 1, 0)])
        self.assertTrue(is_joined(corner) and is_joined(bend))
        self.same(is_joined(put_together(corner, bend, [(0, 0), (1, 1)])), False)

    def test_no_sequence(self):
        for pairs in no_sequences():
            self.refuses(InvalidLot, 0, put_together, SOME, LINE, pairs)

    def test_the_first_entry_that_does_not_fit(self):
        for entry in no_entries() + [(), (0,), (0, 0, 0), [0, 0], (0, 1), (1, 0), (2, 0), (0, 2), (0, -1), (False, 0),
                                     (0, False), (0.0, 0), ((0,), 0), (0, 0), (0, 1), (None, None)]:
            self.refuses(InvalidLot, 1, put_together, SOME, LINE, [(0, 0), entry])
            self.refuses(InvalidLot, 2, put_together, SOME, LINE, ((0, 0), (1, 1), entry, entry))
        for number in no_numbers() + [2, 10 ** 20]:
            self.refuses(InvalidLot, 0, put_together, SOME, LINE, [(number, 0), (0, 0), None])
            self.refuses(InvalidLot, 0, put_together, SOME, LINE, [(0, number), (0, 0), None])
        self.refuses(InvalidLot, 1, put_together, SQUARE, SQUARE, [(0, 0), (0, 1)])
        self.refuses(InvalidLot, 1, put_together, SQUARE, SQUARE, [(0, 0), (1, 0)])
        self.refuses(InvalidLot, 0, put_together, SOME, LINE, [(0, 1)])
        # That there is no state comes last.
        self.refuses(InvalidLot, 1, put_together, Store([2], [[0]]), Store([2], [[1]]), [(0, 0), (0, 0)])

    def test_what_is_passed_is_not_changed(self):
        pairs = [(1, 1), (0, 0)]
        put_together(SOME, SOME, pairs)
        self.assertEqual(pairs, [(1, 1), (0, 0)])

    def test_at_the_limits(self):
        one, few, _, full, most = limit_stores()
        every = [(key, key) for key in range(8)]
        self.same_store(put_together(one, one, every), one.sizes, one.states)
        self.same_store(put_together(full, most, every[::-1]), most.sizes, most.states)
        made = put_together(few, few, every[:6])
        self.same((made.key_count, made.states), (10, combined(few, few, every[:6])))


if __name__ == "__main__":
    unittest.main()
