"""Point [22]: knots, finest papers, tying faults."""

import itertools
import unittest

from bothplans.bundles import finest, is_joined_by
from bothplans.errors import InvalidLot
from bothplans.knots import finest_paper, is_finest_paper, is_knot, is_tying_fault, knot, tying_fault
from bothplans.stores import Store
from tests import reference
from tests.support import (
    PlanCase, as_lists, full_store, limit_stores, no_entries, no_numbers, no_sequences, small_stores,
)

SOME = Store([2, 2, 2], [(0, 0, 0), (1, 1, 0), (1, 1, 1), (1, 0, 1)])
PAIRS = Store([2, 2, 2], [(0, 0, 0), (0, 0, 1), (1, 1, 0), (1, 1, 1)])
SUMS = Store([3, 3], [(0, 2), (1, 1), (2, 0)])
CUBE = full_store(2, 2, 2)
SINGLE, WHOLE = ((0,), (1,), (2,)), ((0, 1, 2),)
FAULT = ((0, 1), (1, 2), (0, 5, 7, 7))
PAPER = (WHOLE, ((0, 1, (0, 0, 0), (1, 1, 0)), (0, 2, (0, 0, 0), (1, 0, 1))))


def is_fault(store, tying, one, other, question):
    common = [key for key in one if key in other]
    return (reference.are_nested(tying, one, other) and reference.tells(store, question, one)
            and reference.tells(store, question, other) and not reference.tells(store, question, common))


class KnotTest(PlanCase):
    def test_examples(self):
        self.same(is_knot(SOME, 0, 2, ((0, 0, 0), (1, 0, 1))), True)
        self.assertIsNone(knot(SOME, 1, 2))
        self.assertIsNone(knot(other=1, one=2, store=SOME))
        self.assertIn(knot(SUMS, 0, 1), [pair for pair in itertools.permutations(SUMS.states, 2)])
        for one, other in itertools.permutations(range(3), 2):
            self.assertIsNone(knot(CUBE, one, other))

    def test_none_or_some(self):
        for store in small_stores():
            for first, second in itertools.permutations(range(store.key_count), 2):
                wanted = reference.knots(store, first, second)
                found = knot(store, first, second)
                if not wanted:
                    self.assertIsNone(found)
                else:
                    self.assertIs(type(found), tuple)
                    self.assertIn(tuple(sorted(found)), wanted)
                    self.same(is_knot(store, first, second, found), True)

    def test_all_pairs_of_states(self):
        for store in list(small_stores())[::3] + [SOME, PAIRS, SUMS]:
            for first, second in itertools.permutations(range(store.key_count), 2):
                wanted = reference.knots(store, first, second)
                for pair in itertools.product(store.states, repeat=2):
                    self.same(is_knot(store, first, second, pair), tuple(sorted(pair)) in wanted)

    def test_keys_that_hang_together_by_knots_are_one_bundle(self):
        for store in small_stores():
            tied = [lot for lot in itertools.combinations(range(store.key_count), 2) if reference.knots(store, *lot)]
            self.same(finest(store), reference.hang_together(store.key_count, tied))

    def test_keys_that_are_none(self):
        pair = ((0, 0, 0), (1, 0, 1))
        for function, more in ((knot, ()), (is_knot, (pair,)), (is_knot, (None,))):
            for value in no_sequences() + no_numbers() + [3, 10 ** 20]:
                if type(value) is int and value in (0, 1):
                    continue
                self.refuses(InvalidLot, 0, function, SOME, value, 0, *more)
                self.refuses(InvalidLot, 0, function, SOME, value, value, *more)
                self.refuses(InvalidLot, 1, function, SOME, 0, value, *more)
            for key in range(3):
                self.refuses(InvalidLot, 1, function, SOME, key, key, *more)
        self.refuses(InvalidLot, 1, knot, Store([2], [[0]]), 0, 0)

    def test_other_values_are_none(self):
        right = ((0, 0, 0), (1, 0, 1))
        self.same(is_knot(value=right, other=2, one=0, store=SOME), True)
        self.same(is_knot(SOME, 2, 0, right[::-1]), True)
        for value in no_entries() + [as_lists(right), list(right), (right[0], [1, 0, 1]), right[:1], right + right[1:],
                                     (right[0], (1, False, 1)), (right[0], (1, 1, 2)), (right[0], right[0]), (), (right,),
                                     (right[0], (0, 0, 1)), (right[0], None), (right[0], (1, 0))]:
            self.same(is_knot(SOME, 0, 2, value), False)

    def test_at_the_limits(self):
        for store in limit_stores():
            bundles = finest(store)
            for first, second in ((0, 1), (7, 2), (3, 6)):
                found = knot(store, first, second)
                if found is not None:
                    self.assertTrue(reference.are_knotting(store, first, second, *found))
                    self.same(is_knot(store, first, second, found), True)
                    self.assertTrue(any({first, second} <= set(bundle) for bundle in bundles))


class FinestPaperTest(PlanCase):
    def check_paper(self, store, paper):
        tying, knots = paper
        self.same(tying, finest(store))
        self.assertEqual(len(knots), store.key_count - len(tying))
        self.assertEqual(sorted(set(knots)), list(knots))
        for first, second, one, other in knots:
            self.assertLess(first, second)
            self.assertTrue(reference.are_knotting(store, first, second, one, other))
        self.same(reference.hang_together(store.key_count, [entry[:2] for entry in knots]), tying)

    def test_examples(self):
        self.same(is_finest_paper(SOME, PAPER), True)
        self.same(is_finest_paper(value=PAPER, store=SOME), True)
        self.same(finest_paper(store=CUBE), (SINGLE, ()))
        self.same(is_finest_paper(CUBE, (SINGLE, ())), True)
        self.same(finest_paper(Store([4], [[0], [2]])), (((0,),), ()))

    def test_some_for_each_store(self):
        for store in list(small_stores())[::2] + limit_stores():
            paper = finest_paper(store)
            self.check_paper(store, paper)
            self.same(is_finest_paper(store, paper), True)

    def test_any_knots_by_which_the_bundles_hang_together(self):
        for store in (SOME, PAIRS, SUMS, Store([2, 2, 2], [(0, 0, 0), (1, 1, 1)])):
            found = finest(store)
            single = []
            for first, second in itertools.combinations(range(store.key_count), 2):
                for one, other in reference.knots(store, first, second):
                    single.extend([(first, second, one, other), (first, second, other, one)])
            for tying in reference.tyings(store.key_count):
                for count in range(3):
                    for knots in itertools.permutations(single, count):
                        right = (tying == found and count == store.key_count - len(tying)
                                 and list(knots) == sorted(knots)
                                 and reference.hang_together(store.key_count, [entry[:2] for entry in knots]) == tying)
                        self.same(is_finest_paper(store, (tying, knots)), right)

    def test_other_values_are_none(self):
        tying, (one, other) = PAPER
        wrong = no_entries() + [
            list(PAPER), as_lists(PAPER), (list(tying), (one, other)), (([0, 1, 2],), (one, other)), (tying, [one, other]),
            (tying, (list(one), other)), (tying, (one, (0, 2, [0, 0, 0], (1, 0, 1)))), (tying, (other, one)), (tying, (one,)),
            (tying, (one, one)), (tying, (one, one, other)), (tying, (one, (2, 0) + other[2:])), (tying,), PAPER + ((),),
            (tying, (one, (0, 2.0) + other[2:])), (tying, ((False, 1) + one[2:], other)), (tying, (one, other[:3])),
            (tying, (one, (0, 2, (0, 0, 0), (1, 1, 0)))), (tying, (one, (1, 2) + other[2:])), (((0, 2, 1),), (one, other)),
            (((0, 1), (2,)), (one,)), (((0, 1),), (one, other)), (((0, 1, 2), ()), (one,)), (((2,), (0, 1)), (one,)),
            (tying, (one, other + ((1, 1, 1),))), (tying, (one, None)), (tying, None), (None, (one, other)), (tying, ()),
            (((0, 1, 2), (0,)), (one,)), (tying, (one, (0, 3) + other[2:])), (tying, (one, (0, -1) + other[2:])),
        ]
        for value in wrong:
            self.same(is_finest_paper(SOME, value), False)

    def test_a_tying_by_which_the_store_is_not_joined(self):
        self.same(is_finest_paper(SOME, (SINGLE, ())), False)
        self.same(is_finest_paper(SOME, (((0, 1), (2,)), PAPER[1][:1])), False)
        self.same(is_finest_paper(CUBE, (WHOLE, ())), False)

    def test_odd_entries(self):
        for entry in no_entries():
            self.same(is_finest_paper(SOME, (WHOLE, (PAPER[1][0], entry))), False)
            self.same(is_finest_paper(SOME, (WHOLE, (PAPER[1][0], (0, entry, (0, 0, 0), (1, 0, 1))))), False)
            self.same(is_finest_paper(SOME, (WHOLE, (PAPER[1][0], (0, 2, (0, 0, 0), entry)))), False)
            self.same(is_finest_paper(SOME, ((entry,), PAPER[1])), False)


class TyingFaultTest(PlanCase):
    def test_examples(self):
        self.same(is_tying_fault(SOME, [[0, 1], [2]], FAULT), True)
        self.same(is_tying_fault(value=FAULT, tying=[[2], [0, 1]], store=SOME), True)
        self.assertIsNone(tying_fault(SOME, [[2, 1, 0]]))
        self.assertIsNone(tying_fault(tying=SINGLE, store=CUBE))
        self.assertIsNone(tying_fault(Store([2, 3], [(1, 2)]), [[0], [1]]))

    def test_none_or_some(self):
        for store in list(small_stores())[::2]:
            for tying in reference.tyings(store.key_count):
                found = tying_fault(store, [list(bundle) for bundle in tying[::-1]])
                if reference.is_joined_by(store, tying):
                    self.assertIsNone(found)
                else:
                    one, other, question = found
                    self.assertIn(one, reference.lots(store.key_count))
                    self.assertIn(other, reference.lots(store.key_count))
                    self.assertTrue(is_fault(store, tying, one, other, question))
                    self.same(is_tying_fault(store, tying, found), True)

    def test_all_lots_with_some_questions(self):
        for store in (SOME, PAIRS, Store([3, 2, 2], [(0, 0, 1), (1, 1, 0), (2, 1, 1), (1, 0, 0)])):
            for tying in reference.tyings(3):
                for question in itertools.product(range(3), repeat=4):
                    for one, other in itertools.product(reference.lots(3), repeat=2):
                        self.same(is_tying_fault(store, tying, (one, other, question)),
                                  is_fault(store, tying, one, other, question))

    def test_other_values_are_none(self):
        one, other, question = FAULT
        for value in no_entries() + [
                list(FAULT), as_lists(FAULT), ([0, 1], other, question), (one, other, list(question)), (one, other),
                FAULT + ((),), ((1, 0), other, question), (one, (2, 1), question), (one, other, question[:3]),
                (one, other, (0, 5, 7, 7.0)), (one, other, (False, 5, 7, 7)), (one, other, (0, 0, 0, 0)), (one, one, question),
                ((0,), (2,), question), (one, (1, 2, 2), question), (one, (1, 3), question), (one, None, question), (None,) * 3,
                (one, other, None), (one, (True, 2), question), ()]:
            self.same(is_tying_fault(SOME, [[0, 1], [2]], value), False)
        self.same(is_tying_fault(SOME, WHOLE, FAULT), False)
        self.same(is_tying_fault(SOME, SINGLE, FAULT), True)
        for entry in no_entries():
            for at in range(3):
                self.same(is_tying_fault(SOME, [[0, 1], [2]], FAULT[:at] + (entry,) + FAULT[at + 1:]), False)

    def test_no_tying(self):
        for function, more in ((tying_fault, ()), (is_tying_fault, (FAULT,)), (is_tying_fault, (None,))):
            for value in no_sequences():
                self.refuses(InvalidLot, 0, function, SOME, value, *more)
            self.refuses(InvalidLot, 1, function, SOME, [[0], [3]], *more)
            self.refuses(InvalidLot, 2, function, SOME, [[0], [2]], *more)

    def test_at_the_limits(self):
        for store in limit_stores():
            for tying in ([[key] for key in range(8)], [[0, 1, 2, 3], [4, 5, 6, 7]], [[0, 1], [2, 3, 4], [5], [7, 6]],
                          [list(range(8))]):
                found = tying_fault(store, tying)
                self.assertEqual(found is None, is_joined_by(store, tying))
                if found is not None:
                    self.assertTrue(is_fault(store, tying, *found))
                    self.same(is_tying_fault(store, tying, found), True)


if __name__ == "__main__":
    unittest.main()
