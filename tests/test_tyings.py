"""Points [19] and [20]: tyings, nested lots, chains by a tying."""

import itertools
import random
import unittest

from bothplans.chains import chain, is_chain
from bothplans.errors import InvalidLot, InvalidState
from bothplans.stores import Store
from bothplans.tyings import (
    are_nested, checked_tying, is_coarser, is_tied_chain, refined, tied_chain,
)
from tests import reference
from tests.support import (
    PlanCase, as_lists, full_store, limit_stores, no_entries, no_numbers, no_sequences, small_stores,
)

SOME = Store([2, 2, 2], [(0, 0, 0), (1, 1, 0), (1, 1, 1), (1, 0, 1)])
SUMS = Store([3, 3], [(0, 2), (1, 1), (2, 0)])
CUBE = full_store(2, 2, 2)
FOUR = full_store(2, 2, 2, 2)
SINGLE, WHOLE = ((0,), (1,), (2,)), ((0, 1, 2),)


class CheckedTyingTest(PlanCase):
    def test_in_any_order(self):
        for value in ([[2, 0], [1]], ((1,), (0, 2)), [(1,), [2, 0]], ([0, 2], [1])):
            self.same(checked_tying(CUBE, value), ((0, 2), (1,)))
        self.same(checked_tying(store=CUBE, value=[[2, 1, 0]]), WHOLE)
        self.same(checked_tying(CUBE, [[2], [1], [0]]), SINGLE)
        self.same(checked_tying(Store([4], [[2]]), [[0]]), ((0,),))

    def test_what_this_makes_of_all_tyings(self):
        for tying in reference.tyings(4):
            for told in itertools.permutations(tying):
                self.same(checked_tying(FOUR, [list(bundle)[::-1] for bundle in told]), tying)

    def test_no_sequence(self):
        for value in no_sequences():
            self.refuses(InvalidLot, 0, checked_tying, CUBE, value)

    def test_the_first_entry_that_does_not_fit(self):
        for entry in no_sequences() + [[], (), [3], [0, 0], [0, 3], [-1], [True]]:
            self.refuses(InvalidLot, 0, checked_tying, CUBE, [entry, [0], [1], [2]])
            self.refuses(InvalidLot, 1, checked_tying, CUBE, [[1], entry, entry])
            self.refuses(InvalidLot, 2, checked_tying, CUBE, ((2, 1), (0,), entry))
        for number in no_numbers() + [3, 10 ** 20]:
            self.refuses(InvalidLot, 1, checked_tying, CUBE, [[0, 1], [2, number]])
        self.refuses(InvalidLot, 1, checked_tying, CUBE, [[0, 1], [1, 2]])
        self.refuses(InvalidLot, 2, checked_tying, CUBE, [[0], [1, 2], [0]])
        self.refuses(InvalidLot, 1, checked_tying, CUBE, [[1], [1]])

    def test_a_key_is_missing(self):
        self.refuses(InvalidLot, 0, checked_tying, CUBE, [])
        self.refuses(InvalidLot, 1, checked_tying, CUBE, [[0, 1]])
        self.refuses(InvalidLot, 2, checked_tying, CUBE, ([0], [2]))

    def test_what_is_passed_is_neither_changed_nor_kept(self):
        value = [[2, 1], [0]]
        tying = checked_tying(CUBE, value)
        self.assertEqual(value, [[2, 1], [0]])
        value[0][0] = 7
        value.append([9])
        self.same(tying, ((0,), (1, 2)))


class CompareTest(PlanCase):
    def test_examples(self):
        self.same(is_coarser(CUBE, WHOLE, SINGLE), True)
        self.same(is_coarser(CUBE, SINGLE, WHOLE), False)
        self.same(is_coarser(CUBE, [[2, 0], [1]], [[0, 2], [1]]), True)
        self.same(is_coarser(other=[[0, 1], [2]], one=[[0, 2], [1]], store=CUBE), False)
        self.same(refined(CUBE, [[0, 1], [2]], [[0], [2, 1]]), SINGLE)
        self.same(refined(CUBE, WHOLE, [[0], [2, 1]]), ((0,), (1, 2)))
        self.same(refined(other=[[2, 1, 0]], one=[[2, 1, 0]], store=CUBE), WHOLE)

    def test_all_tyings_of_four_keys(self):
        tyings = reference.tyings(4)
        for one, other in itertools.product(tyings, repeat=2):
            coarser = all(any(set(small) <= set(large) for large in one) for small in other)
            self.same(is_coarser(FOUR, one, list(other)), coarser)
            in_both = {tuple(key for key in range(4) if
                             any({key, first} <= set(bundle) for bundle in one) and
                             any({key, first} <= set(bundle) for bundle in other)) for first in range(4)}
            self.same(refined(FOUR, one, other), tuple(sorted(in_both)))

    def test_tyings_are_checked_from_left_to_right(self):
        for function in (is_coarser, refined):
            self.refuses(InvalidLot, 1, function, CUBE, [[0, 1], [7]], None)
            self.refuses(InvalidLot, 2, function, CUBE, [[0], [1]], [])
            self.refuses(InvalidLot, 0, function, CUBE, WHOLE, None)
            self.refuses(InvalidLot, 1, function, CUBE, WHOLE, [[0, 1], [2, 1]])
            self.refuses(InvalidLot, 0, function, CUBE, WHOLE, [])

    def test_at_the_limits(self):
        store = limit_stores()[0]
        single, whole = [[key] for key in range(8)], [list(range(8))[::-1]]
        pairs = [[0, 4], [1, 5], [2, 6], [3, 7]]
        self.same(is_coarser(store, whole, pairs), True)
        self.same(is_coarser(store, pairs, single), True)
        self.same(is_coarser(store, pairs, whole), False)
        self.same(refined(store, pairs, [[0, 1, 4], [2, 3], [5, 6, 7]]),
                  ((0, 4), (1,), (2,), (3,), (5,), (6,), (7,)))


class NestedTest(PlanCase):
    def test_examples(self):
        self.same(are_nested(CUBE, [[0, 1], [2]], [0], [0, 1]), True)
        self.same(are_nested(CUBE, [[0, 1], [2]], [0], [1]), False)
        self.same(are_nested(CUBE, [[0, 1], [2]], [0, 2], [1, 0]), True)
        self.same(are_nested(CUBE, [[0, 1], [2]], [0, 2], [1]), False)
        self.same(are_nested(CUBE, WHOLE, [0, 1], [1, 2]), False)
        self.same(are_nested(other=(1, 0), one=[], tying=[[2, 1, 0]], store=CUBE), True)

    def test_all_lots_and_tyings_of_four_keys(self):
        for tying in reference.tyings(4):
            for one, other in itertools.product(reference.lots(4), repeat=2):
                wanted = all(set(one) & set(bundle) <= set(other) or set(other) & set(bundle) <= set(one)
                             for bundle in tying)
                self.same(are_nested(FOUR, tying, one, list(other)[::-1]), wanted)

    def test_facts(self):
        single = [[0], [1], [2], [3]]
        for one, other in itertools.product(reference.lots(4), repeat=2):
            self.same(are_nested(FOUR, single, one, other), True)
        for tying in reference.tyings(4):
            unions = [sum(some, ()) for count in range(len(tying) + 1) for some in itertools.combinations(tying, count)]
            for one, other in itertools.product(unions, repeat=2):
                self.same(are_nested(FOUR, tying, one, other), True)

    def test_errors_from_left_to_right(self):
        self.refuses(InvalidLot, 2, are_nested, CUBE, [[0], [1]], [0, 0], [7])
        self.refuses(InvalidLot, 1, are_nested, CUBE, WHOLE, [0, 0], [7])
        self.refuses(InvalidLot, 0, are_nested, CUBE, WHOLE, [0], [7])
        self.refuses(InvalidLot, 0, are_nested, CUBE, WHOLE, [0], None)
        self.refuses(InvalidLot, 1, are_nested, CUBE, WHOLE, [0], [0, False])


class TiedChainTest(PlanCase):
    def test_examples(self):
        self.same(tied_chain(SOME, [(0, 1), (2,)], (0, 0, 0), (1, 1, 1)), ((0, 0, 0), (1, 1, 0), (1, 1, 1)))
        self.assertIsNone(tied_chain(SOME, [(0, 1), (2,)], (0, 0, 0), (1, 0, 1)))
        self.same(tied_chain(SOME, WHOLE, [0, 0, 0], [1, 0, 1]), ((0, 0, 0), (1, 0, 1)))
        self.assertIsNone(tied_chain(SUMS, [[0], [1]], (0, 2), (2, 0)))
        self.same(tied_chain(other=[2, 0], one=(0, 2), tying=[[1, 0]], store=SUMS), ((0, 2), (2, 0)))

    def test_from_a_state_to_itself(self):
        for tying in reference.tyings(3):
            for state in SOME.states:
                self.same(tied_chain(SOME, tying, state, state), (state,))
                self.same(is_tied_chain(SOME, tying, state, state, (state,)), True)
                self.same(is_tied_chain(SOME, tying, state, state, (state, state)), False)
                for other in SOME.states:
                    self.same(is_tied_chain(SOME, tying, state, state, (state, other, state)), False)

    def test_none_or_one_with_the_fewest_states(self):
        for store in list(small_stores())[::3]:
            for tying in reference.tyings(store.key_count):
                for one, other in reference.pairs(store):
                    count = reference.chain_length(store, one, other, tying)
                    found = tied_chain(store, list(tying)[::-1], one, other)
                    if count is None:
                        self.assertIsNone(found)
                    else:
                        self.assertEqual(len(found), count)
                        self.assertTrue(reference.is_chain(store, one, other, found, tying))
                        self.same(is_tied_chain(store, tying, one, other, found), True)

    def test_single_keys_make_chains(self):
        for store in list(small_stores())[::5]:
            single = [[key] for key in range(store.key_count)]
            for one, other in reference.pairs(store):
                straight, tied = chain(store, one, other), tied_chain(store, single, one, other)
                self.assertEqual(straight and len(straight), tied and len(tied))
                if tied is not None:
                    self.same(is_chain(store, one, other, tied), True)

    def test_all_short_rows(self):
        for store in (SOME, Store([2, 2, 2], [(0, 0, 0), (0, 0, 1), (1, 1, 0), (1, 1, 1)]),
                      Store([2, 3, 2], [(0, 0, 0), (0, 1, 0), (0, 2, 1), (1, 2, 0)])):
            for tying in reference.tyings(3):
                for count in range(5):
                    for value in itertools.product(store.states, repeat=count):
                        for one, other in itertools.product(store.states[:2], store.states):
                            wanted = reference.is_chain(store, one, other, value, tying)
                            self.same(is_tied_chain(store, tying, one, other, value), wanted)

    def test_keys_in_which_the_two_agree_are_never_touched(self):
        around = Store([2, 2, 2], [(0, 0, 0), (0, 1, 1), (1, 0, 0), (1, 1, 1)])
        self.assertIsNone(tied_chain(around, [[0], [1], [2]], (0, 0, 0), (0, 1, 1)))
        self.same(is_tied_chain(around, [[0], [1, 2]], (0, 0, 0), (0, 1, 1),
                                ((0, 0, 0), (1, 0, 0), (1, 1, 1), (0, 1, 1))), False)
        self.same(is_tied_chain(around, [[0], [2, 1]], (0, 0, 0), (1, 1, 1),
                                ((0, 0, 0), (1, 0, 0), (1, 1, 1))), True)

    def test_other_values_are_none(self):
        tying = [[0, 1], [2]]
        right = ((0, 0, 0), (1, 1, 0), (1, 1, 1))
        self.same(is_tied_chain(value=right, other=[1, 1, 1], one=[0, 0, 0], tying=tying, store=SOME), True)
        wrong = no_entries() + [
            as_lists(right), list(right), (right[0], [1, 1, 0], right[2]), right[:2], right[1:], right[::-1], (), (right,),
            (right[0], right[2]), (right[0], (1, 1, False), right[2]), (right[0], (1.0, 1, 0), right[2]),
            (right[0], (0, 0, 1), right[2]), (right[0], right[1], right[1], right[2]), (right[0], None, right[2]),
            (right[0], (1, 1), right[2]),
        ]
        for value in wrong:
            self.same(is_tied_chain(SOME, tying, (0, 0, 0), (1, 1, 1), value), False)

    def test_errors_from_left_to_right(self):
        for function, more in ((tied_chain, ()), (is_tied_chain, (None,))):
            self.refuses(InvalidLot, 2, function, SOME, [[0], [1]], None, None, *more)
            self.refuses(InvalidLot, 0, function, SOME, None, (0, 0, 0), (1, 1, 1), *more)
            self.refuses(InvalidState, 0, function, SOME, WHOLE, (0, 0, 1), None, *more)
            self.refuses(InvalidState, 0, function, SOME, WHOLE, (0, 0, False), (1, 1, 1), *more)
            self.refuses(InvalidState, 1, function, SOME, WHOLE, [0, 0, 0], (0, 0, 1), *more)
            self.refuses(InvalidState, 1, function, SOME, SINGLE, [0, 0, 0], None, *more)

    def test_at_the_limits(self):
        chance = random.Random(20)
        for store in limit_stores():
            for tying in ([[key] for key in range(8)], [list(range(8))], [[0, 1, 2, 3], [4, 5, 6, 7]],
                          [[0, 1], [2, 3, 4], [5], [7, 6]]):
                for _ in range(6):
                    one, other = chance.choice(store.states), chance.choice(store.states)
                    count = reference.chain_length(store, one, other, tying)
                    found = tied_chain(store, tying, one, other)
                    self.assertEqual(found and len(found), count)
                    if found is not None:
                        self.assertTrue(reference.is_chain(store, one, other, found, tying))
                        self.same(is_tied_chain(store, tying, one, other, found), True)


if __name__ == "__main__":
    unittest.main()
