"""Points [20] and [21]: stores joined by tyings, the finest tying and all others, turning bundles."""

import itertools
import random
import unittest

from bothplans.bundles import finest, is_joined_by, turning_bundles, tying_count, tyings
from bothplans.chains import is_joined
from bothplans.errors import InvalidLot, InvalidQuestion, Refused
from bothplans.knots import tying_fault
from bothplans.stores import Store
from bothplans.telling import tells
from bothplans.torn import torn_plans
from bothplans.tyings import is_coarser, tied_chain
from tests import reference
from tests.support import (
    PlanCase, full_store, limit_stores, no_entries, no_sequences, small_stores, some_questions,
)

SOME = Store([2, 2, 2], [(0, 0, 0), (1, 1, 0), (1, 1, 1), (1, 0, 1)])
PAIRS = Store([2, 2, 2], [(0, 0, 0), (0, 0, 1), (1, 1, 0), (1, 1, 1)])
SUMS = Store([3, 3], [(0, 2), (1, 1), (2, 0)])
CUBE = full_store(2, 2, 2)
SINGLE, WHOLE = ((0,), (1,), (2,)), ((0, 1, 2),)
BELLS = (1, 1, 2, 5, 15, 52, 203, 877, 4140)


class JoinedByTest(PlanCase):
    def test_examples(self):
        self.same(is_joined_by(SOME, [[0, 1], [2]]), False)
        self.same(is_joined_by(SOME, [[2, 1, 0]]), True)
        self.same(is_joined_by(PAIRS, [[2], [1, 0]]), True)
        self.same(is_joined_by(PAIRS, ((1, 2), (0,))), False)
        self.same(is_joined_by(tying=SINGLE, store=CUBE), True)
        self.same(is_joined_by(SUMS, [[0], [1]]), False)

    def test_one_state_and_one_key(self):
        for tying in reference.tyings(3):
            self.same(is_joined_by(Store([2, 3, 1], [(1, 2, 0)]), tying), True)
        self.same(is_joined_by(Store([5], [[4], [0], [2]]), [[0]]), True)

    def test_all_tyings_of_small_stores(self):
        for store in list(small_stores())[::2]:
            for tying in reference.tyings(store.key_count):
                self.same(is_joined_by(store, [list(bundle)[::-1] for bundle in tying][::-1]),
                          reference.is_joined_by(store, tying))

    def test_if_each_key_is_a_bundle_it_is_whether_the_store_is_joined(self):
        for store in small_stores():
            self.same(is_joined_by(store, [[key] for key in range(store.key_count)]), is_joined(store))

    def test_two_nested_plans_have_common_keys_that_tell_exactly_if_joined(self):
        for store in list(small_stores())[::7]:
            for tying in reference.tyings(store.key_count):
                self.assertEqual(is_joined_by(store, tying), not reference.has_tying_fault(store, tying))

    def test_no_tying(self):
        for value in no_sequences():
            self.refuses(InvalidLot, 0, is_joined_by, CUBE, value)
        for entry in no_entries():
            self.refuses(InvalidLot, 1, is_joined_by, CUBE, [[0, 1], entry])
        self.refuses(InvalidLot, 2, is_joined_by, SUMS, [[0], [1], [0]])
        self.refuses(InvalidLot, 1, is_joined_by, SUMS, [[1]])


class FinestTest(PlanCase):
    def test_examples(self):
        self.same(finest(SOME), WHOLE)
        self.same(finest(PAIRS), ((0, 1), (2,)))
        self.same(finest(SUMS), ((0, 1),))
        self.same(finest(store=CUBE), SINGLE)
        self.same(tyings(PAIRS), (((0, 1), (2,)), WHOLE))
        self.same(tyings(store=SOME), (WHOLE,))
        self.same(tying_count(store=PAIRS), 2)
        self.same(tying_count(CUBE), 5)

    def test_one_state_and_one_key(self):
        self.same(finest(Store([2, 3, 1], [(1, 2, 0)])), SINGLE)
        self.same(finest(Store([5], [[4], [0], [2]])), ((0,),))
        self.same(tyings(Store([5], [[4], [0], [2]])), (((0,),),))

    def test_just_those_by_which_the_store_is_joined(self):
        for store in list(small_stores())[::2]:
            wanted = reference.joined_tyings(store)
            self.same(tyings(store), tuple(wanted))
            self.same(tying_count(store), len(wanted))
            least = [tying for tying in wanted if all(reference.is_coarser(other, tying) for other in wanted)]
            self.same([finest(store)], least)

    def test_keys_with_one_value_are_bundles(self):
        for store in small_stores():
            for key in range(store.key_count):
                if len({state[key] for state in store.states}) == 1:
                    self.assertIn((key,), finest(store))

    def test_any_two_plans_exactly_if_each_key_is_a_bundle(self):
        for store in list(small_stores())[::4]:
            single = tuple((key,) for key in range(store.key_count))
            common_keys_tell = not reference.has_torn_plans(store)
            self.assertEqual(finest(store) == single, common_keys_tell)
            self.assertEqual(torn_plans(store) is None, common_keys_tell)
            self.assertEqual(tying_fault(store, single) is None, common_keys_tell)

    def test_at_the_limits(self):
        chance = random.Random(21)
        for store in limit_stores():
            found = finest(store)
            self.same(is_joined_by(store, found), True)
            self.same(tying_count(store), BELLS[len(found)])
            every = tyings(store)
            self.assertEqual(sorted(set(every)), list(every))
            for tying in chance.sample(every, min(3, len(every))):
                self.same(is_coarser(store, tying, found), True)
                self.same(is_joined_by(store, tying), True)
                one, other = chance.choice(store.states), chance.choice(store.states)
                self.assertIsNotNone(tied_chain(store, tying, one, other))
            for tying in (tuple((key,) for key in range(8)), ((0, 1, 2, 3), (4, 5, 6, 7)), (tuple(range(8)),)):
                self.same(is_joined_by(store, tying), tying in every)


class TurningBundlesTest(PlanCase):
    def test_examples(self):
        self.same(turning_bundles(PAIRS, finest(PAIRS), (3, 3, 4, 4)), ((0, 1),))
        self.same(turning_bundles(PAIRS, [[2], [1, 0]], [3, 4, 3, 4]), ((2,),))
        self.same(turning_bundles(PAIRS, [[2, 1, 0]], [3, 4, 3, 4]), (WHOLE[0],))
        self.same(turning_bundles(question=[5] * 8, tying=SINGLE, store=CUBE), ())
        self.same(turning_bundles(CUBE, SINGLE, [0, 0, 0, 0, 0, 0, 0, 10 ** 40]), SINGLE)

    def test_all_tyings_of_small_stores(self):
        for store in list(small_stores())[::4]:
            every = tyings(store)
            for tying in reference.tyings(store.key_count):
                for question in some_questions(store):
                    if tying in every:
                        self.same(turning_bundles(store, list(tying)[::-1], list(question)),
                                  reference.turning_bundles(store, tying, question))
                    else:
                        self.refuses(Refused, 0, turning_bundles, store, tying, question)

    def test_lots_of_whole_bundles_tell_exactly_if_they_have_all_of_these(self):
        for store in list(small_stores())[::4]:
            for tying in tyings(store):
                for question in some_questions(store, 1):
                    turns = turning_bundles(store, tying, question)
                    for count in range(len(tying) + 1):
                        for bundles in itertools.combinations(tying, count):
                            self.assertEqual(reference.tells(store, question, sum(bundles, ())),
                                             set(turns) <= set(bundles))

    def test_errors_from_left_to_right(self):
        self.refuses(InvalidLot, 1, turning_bundles, SUMS, [[0]], None)
        self.refuses(InvalidLot, 0, turning_bundles, SUMS, None, (0, 0, 0))
        for question in no_sequences() + [(0, 0), (0, 0, 0, 0), (0, 0, True), (0, 0, -1), (0, 0, None)]:
            self.refuses(InvalidQuestion, 0, turning_bundles, SUMS, [[0], [1]], question)
            self.refuses(InvalidQuestion, 0, turning_bundles, SUMS, [[0, 1]], question)
        self.refuses(Refused, 0, turning_bundles, SUMS, [[0], [1]], (0, 0, 0))

    def test_at_the_limits(self):
        for store in limit_stores():
            tying = finest(store)
            for question in list(some_questions(store))[::3]:
                turns = turning_bundles(store, tying, question)
                self.assertTrue(tells(store, question, sum(turns, ())))


if __name__ == "__main__":
    unittest.main()
