"""Point [43]: states that are surely alike, and what lots are, as section 12 says."""

import itertools
import random
import unittest

from bothplans.errors import InvalidState
from bothplans.stores import Store
from bothplans.sure import class_question, is_sure_way, sure_classes, sure_way
from bothplans.telling import tells
from tests import reference
from tests.plans import alike, check_lots_refused, some_lots, ways
from tests.support import PlanCase, Unfriendly, as_lists, full_store, limit_stores, no_entries, small_stores

SUMS = Store([3, 3], [(0, 2), (1, 1), (2, 0)])
SQUARE = full_store(2, 2)
ONE = Store([2, 3], [(1, 2)])


class SureClassesTest(PlanCase):
    def test_examples(self):
        self.same(sure_classes(SUMS, [(0,), (1,)]), (((0, 2),), ((1, 1),), ((2, 0),)))
        self.same(sure_classes(lots=[[0]], store=SQUARE), (((0, 0), (0, 1)), ((1, 0), (1, 1))))
        self.same(class_question(lots=([0],), store=SQUARE), (0, 0, 1, 1))
        self.same(class_question(SUMS, [(0,), (1,)]), (0, 1, 2))

    def test_by_all_questions(self):
        for store in (SQUARE, SUMS, ONE, Store([3, 2], [(0, 0), (1, 0), (2, 1)]), Store([2, 2], [(0, 1), (1, 0)]),
                      Store([2, 2, 2], [(0, 0, 0), (0, 1, 1), (1, 0, 1), (1, 1, 0)])):
            count = len(store.states)
            for lots in some_lots(store):
                fits = [question for question in itertools.product(range(count), repeat=count)
                        if all(reference.tells(store, question, lot) for lot in lots)]
                unlike = {(one, other) for one, other in itertools.combinations(range(count), 2)
                          if any(question[one] != question[other] for question in fits)}
                question = class_question(store, lots)
                self.assertEqual(unlike, {(one, other) for one, other in itertools.combinations(range(count), 2)
                                          if question[one] != question[other]})

    def test_by_ways(self):
        for store in small_stores():
            for lots in some_lots(store):
                classes = alike(store, lots)
                self.same(sure_classes(store, lots), classes)
                number = {state: at for at, states in enumerate(classes) for state in states}
                question = tuple(number[state] for state in store.states)
                self.same(class_question(store, lots), question)
                self.assertTrue(all(tells(store, question, lot) for lot in lots))

    def test_no_lots_and_the_empty_lot(self):
        for store in (SQUARE, SUMS, ONE):
            self.same(sure_classes(store, []), tuple((state,) for state in store.states))
            self.same(class_question(store, ()), tuple(range(len(store.states))))
            self.same(sure_classes(store, [()]), (store.states,))
            self.same(class_question(store, [[0, 1], []]), (0,) * len(store.states))

    def test_in_any_order_and_also_twice(self):
        chance = random.Random(2)
        for store in small_stores():
            for lots in list(some_lots(store, 3))[3:]:
                mixed = [chance.sample(lot, len(lot)) for lot in lots + lots[:1]]
                chance.shuffle(mixed)
                self.same(sure_classes(store, mixed), sure_classes(store, lots))

    def test_refusals(self):
        check_lots_refused(self, sure_classes)
        check_lots_refused(self, class_question)

    def test_at_the_limits(self):
        for store in limit_stores():
            for lots in list(some_lots(store))[2:]:
                classes = sure_classes(store, lots)
                self.assertEqual(sorted(sum(classes, ())), list(store.states))
                self.assertEqual(list(classes), sorted(classes))
                for lot in lots:
                    self.assertTrue(tells(store, class_question(store, lots), lot))
            every = reference.lots(8)
            self.same(sure_classes(store, every), (store.states,))
            self.same(sure_classes(store, [tuple(range(8))] * 3), tuple((state,) for state in store.states))


class SureWayTest(PlanCase):
    def test_examples(self):
        self.same(sure_way(SQUARE, [(0,), (1,)], (0, 0), (0, 1)), ((0, 0), (0, 1)))
        self.same(sure_way(other=[1, 1], one=[0, 0], lots=[[0]], store=SQUARE), None)
        self.same(sure_way(SUMS, [(0,), (1,)], (0, 2), (2, 0)), None)

    def test_the_fewest_states(self):
        for store in small_stores():
            for lots in list(some_lots(store, 1))[:7]:
                for one in store.states[::2]:
                    counts = ways(store, lots, one)
                    for other in store.states:
                        way = sure_way(store, as_lists(lots), list(one), other)
                        if other not in counts:
                            self.same(way, None)
                        else:
                            self.same(is_sure_way(store, lots, one, other, way), True)
                            self.assertEqual(len(way), counts[other])

    def test_from_a_state_to_itself(self):
        for lots in ([], [()], [(0, 1)]):
            self.same(sure_way(SQUARE, lots, (0, 1), [0, 1]), ((0, 1),))
            self.same(is_sure_way(SQUARE, lots, (0, 1), [0, 1], ((0, 1),)), True)

    def test_all_values_for_small_stores(self):
        for store in (SQUARE, SUMS, Store([3, 2], [(0, 0), (1, 0), (2, 1), (2, 0)])):
            rows = list(store.states) + [(0, 9), (1, 1)]
            values = [value for size in range(4) for value in itertools.product(rows, repeat=size)]
            for lots in ([], [()], [(0,)], [(0,), (1,)], [(0, 1)]):
                for one, other in itertools.product(store.states[:3], repeat=2):
                    for value in values:
                        wanted = len(value) > 0 and value[0] == one and value[-1] == other
                        wanted = wanted and all(row in store.states for row in value) and all(
                            any(reference.agree(left, right, lot) for lot in lots) for left, right in zip(value, value[1:]))
                        self.same(is_sure_way(store, lots, one, other, value), bool(wanted))

    def test_a_way_may_stay_and_come_back(self):
        value = ((0, 0), (0, 0), (0, 1), (0, 0), (1, 0))
        self.same(is_sure_way(SQUARE, [(0,), (1,)], (0, 0), (1, 0), value), True)
        self.same(is_sure_way(SQUARE, [(0, 1)], (0, 0), (0, 0), ((0, 0), (0, 0))), True)
        self.same(is_sure_way(SQUARE, [], (0, 0), (0, 0), ((0, 0), (0, 0))), False)

    def test_values_that_are_none(self):
        right = ((0, 0), (0, 1), (1, 1))
        self.same(is_sure_way(value=right, other=[1, 1], one=[0, 0], lots=[[0], [1]], store=SQUARE), True)
        for value in no_entries() + [
            as_lists(right), list(right), (list(right[0]),) + right[1:], right[:2], right[1:], right + ((0, 1),), ((0, 0), (1, 1)),
            ((0, False), (0, 1), (1, 1)), ((0, 0), (0, 1.0), (1, 1)), ((0, 0), (0, 1, 1), (1, 1)), right[0], (), (None,) * 3,
        ]:
            self.same(is_sure_way(SQUARE, [(0,), (1,)], (0, 0), (1, 1), value), False)
        for entry in no_entries():
            self.same(is_sure_way(SQUARE, [(0,), (1,)], (0, 0), (1, 1), ((0, 0), entry, (1, 1))), False)

    def test_refusals(self):
        check_lots_refused(self, sure_way, None, None)
        check_lots_refused(self, is_sure_way, (0, 9), None, None)
        for value in no_entries() + [(0, 2), (0,), (0, True), [0, Unfriendly()]]:
            self.refuses(InvalidState, 0, sure_way, SQUARE, [], value, value)
            self.refuses(InvalidState, 1, sure_way, SQUARE, [[0]], [0, 0], value)
            self.refuses(InvalidState, 0, is_sure_way, SQUARE, [], value, value, ())
            self.refuses(InvalidState, 1, is_sure_way, SQUARE, [[0]], (0, 1), value, None)

    def test_at_the_limits(self):
        chance = random.Random(43)
        for store in limit_stores():
            for lots in [[(key,) for key in range(8)], [(0, 1, 2), (5,)], [(1, 2, 3, 4, 5, 6, 7), (0, 1, 2, 3, 4, 5, 6)],
                         reference.lots(8)[1:], []]:
                classes = class_question(store, lots)
                for one, other in [chance.sample(store.states, 2) for _ in range(4)]:
                    same = classes[store.states.index(one)] == classes[store.states.index(other)]
                    way = sure_way(store, lots, one, other)
                    self.assertEqual(way is not None, same)
                    if way is not None:
                        self.same(is_sure_way(store, lots, one, other, way), True)


if __name__ == "__main__":
    unittest.main()
