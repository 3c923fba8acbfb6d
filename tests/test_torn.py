"""Point [16]: torn plans."""

import itertools
import unittest

from bothplans.chains import is_joined
from bothplans.stores import Store
from bothplans.torn import are_torn_plans, torn_plans
from tests import reference
from tests.support import PlanCase, as_lists, full_store, limit_stores, no_entries, small_stores

SUMS = Store([3, 3], [(0, 2), (1, 1), (2, 0)])
SQUARE = full_store(2, 2)
TORN = ((0, 2), (2, 0), (0,), (1,), (5, 6, 7))


def are_torn(store, one, other, lot, other_lot, question):
    told = reference.answers(store, question)
    common = [key for key in lot if key in other_lot]
    return (reference.tells(store, question, lot) and reference.tells(store, question, other_lot)
            and reference.agree(one, other, common) and told[one] != told[other])


class TornTest(PlanCase):
    def test_examples(self):
        self.same(are_torn_plans(SUMS, TORN), True)
        self.same(are_torn_plans(store=SUMS, value=TORN), True)
        self.assertIsNone(torn_plans(SQUARE))
        self.assertIsNone(torn_plans(store=Store([2, 3], [(1, 2)])))

    def test_some_exactly_if_the_store_is_not_joined(self):
        for store in small_stores():
            found = torn_plans(store)
            if reference.unjoined(store) is None:
                self.assertIsNone(found)
            else:
                self.assertTrue(are_torn(store, *found))
                self.same(are_torn_plans(store, found), True)
                self.assertIn(found[2], reference.lots(store.key_count))
                self.assertIn(found[3], reference.lots(store.key_count))
                self.assertEqual(repr(found), repr(tuple(found)))

    def test_some_exactly_if_two_plans_have_too_few_common_keys(self):
        for store in list(small_stores())[::4]:
            self.assertEqual(torn_plans(store) is not None, reference.has_torn_plans(store))

    def test_in_whatever_way_the_keys_are_divided(self):
        """The fact at the end of the point, for two states without a chain that differ in as few keys as any."""
        for store in small_stores():
            unlinked = [pair for pair in reference.pairs(store) if reference.chain_length(store, *pair) is None]
            if not unlinked:
                continue
            one, other = min(unlinked, key=lambda pair: len(reference.apart(*pair)))
            keys = reference.apart(one, other)
            everything = range(store.key_count)
            for count in range(1, len(keys)):
                for part in itertools.combinations(keys, count):
                    lot = tuple(key for key in everything if key not in part)
                    other_lot = tuple(key for key in everything if key in part or key not in keys)
                    question = tuple(map(store.states.index, reference.surely_alike(store, [lot, other_lot])))
                    self.same(are_torn_plans(store, (one, other, lot, other_lot, question)), True)

    def test_all_values_of_a_small_store(self):
        store = Store([2, 2], [(0, 0), (0, 1), (1, 0)])
        lots = reference.lots(2)
        for store in (store, Store([2, 2], [(0, 0), (1, 1)]), SQUARE):
            count = len(store.states)
            for question in itertools.product(range(2), repeat=count):
                for one, other in itertools.product(store.states, repeat=2):
                    for lot, other_lot in itertools.product(lots, repeat=2):
                        value = (one, other, lot, other_lot, question)
                        self.same(are_torn_plans(store, value), are_torn(store, *value))

    def test_what_is_wanted_of_each_part(self):
        rows = Store([2, 2, 2], [(0, 0, 0), (0, 1, 1), (1, 0, 0), (1, 1, 1)])
        self.same(are_torn_plans(rows, ((0, 0, 0), (0, 1, 1), (0, 1), (0, 2), (1, 2, 1, 2))), True)
        self.same(are_torn_plans(rows, ((0, 0, 0), (0, 1, 1), (0,), (0, 2), (1, 2, 1, 2))), False)
        self.same(are_torn_plans(rows, ((0, 0, 0), (0, 1, 1), (0, 1), (0,), (1, 2, 1, 2))), False)
        self.same(are_torn_plans(rows, ((0, 0, 0), (1, 1, 1), (0, 1), (0, 2), (1, 2, 1, 2))), False)
        self.same(are_torn_plans(rows, ((0, 0, 0), (1, 1, 1), (1,), (2,), (1, 2, 1, 2))), True)
        self.same(are_torn_plans(rows, ((0, 0, 0), (1, 0, 0), (1,), (2,), (1, 2, 1, 2))), False)
        self.same(are_torn_plans(rows, ((1, 1, 1), (0, 0, 0), (2,), (1,), (1, 2, 1, 2))), True)

    def test_other_values_are_none(self):
        wrong = no_entries() + [
            as_lists(TORN), list(TORN), TORN[:4], TORN + ((),), (TORN,), (),
            ([0, 2],) + TORN[1:], TORN[:1] + ([2, 0],) + TORN[2:], TORN[:2] + ([0], (1,), (5, 6, 7)),
            TORN[:2] + ((0,), [1], (5, 6, 7)), TORN[:4] + ([5, 6, 7],), TORN[:4] + ((5, 6),), TORN[:4] + ((5, 6, True),),
            TORN[:4] + ((5, 6, -7),), TORN[:4] + ((5, 6, 7, 8),), TORN[:4] + ((5, 6, 7.0),), TORN[:4] + (None,),
            TORN[:2] + ((False,), (1,), (5, 6, 7)), TORN[:2] + ((0,), (True,), (5, 6, 7)), TORN[:2] + ((0,), (2,), (5, 6, 7)),
            TORN[:2] + ((1,), (1,), (5, 6, 7)), TORN[:2] + ((0, 0), (1,), (5, 6, 7)), TORN[:2] + (None, (1,), (5, 6, 7)),
            ((0, 2), (0, 2)) + TORN[2:], ((0, 2), (0, 0)) + TORN[2:], ((False, 2), (2, 0)) + TORN[2:], (None,) * 5,
            TORN[:4] + ((5, 5, 5),),
        ]
        for value in wrong:
            self.same(are_torn_plans(SUMS, value), False)

    def test_lots_are_ascending(self):
        rows = Store([2, 2, 2], [(0, 0, 0), (0, 1, 1), (1, 0, 0), (1, 1, 1)])
        self.same(are_torn_plans(rows, ((0, 0, 0), (0, 1, 1), (1, 0), (0, 2), (1, 2, 1, 2))), False)
        self.same(are_torn_plans(rows, ((0, 0, 0), (0, 1, 1), (0, 1), (2, 0), (1, 2, 1, 2))), False)

    def test_at_the_limits(self):
        for store in limit_stores():
            found = torn_plans(store)
            self.assertEqual(found is None, is_joined(store))
            if found is not None:
                self.assertTrue(are_torn(store, *found))
                self.same(are_torn_plans(store, found), True)


if __name__ == "__main__":
    unittest.main()
