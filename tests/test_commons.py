"""Points [44] and [45]: common keys, lots that surely tell, plans that add nothing."""

import itertools
import random
import unittest

from bothplans.chains import is_joined
from bothplans.commons import (
    adds, are_enough_plans, common_fault, common_keys, enough_plans, sure_lots, surely_tells,
)
from bothplans.errors import InvalidLot
from bothplans.stores import Store
from bothplans.sure import class_question, sure_classes
from tests import reference
from tests.plans import alike, check_lots_refused, some_lots
from tests.support import PlanCase, as_lists, full_store, limit_stores, no_entries, no_numbers, no_sequences, small_stores

SUMS = Store([3, 3], [(0, 2), (1, 1), (2, 0)])
SQUARE = full_store(2, 2)
ONE = Store([2, 3], [(1, 2)])


def common(store, lots):
    return tuple(key for key in range(store.key_count) if all(key in lot for lot in lots))


def unlike_pairs(store, lots, classes):
    """The pairs of states that agree on a lot and are in two classes."""
    number = {state: at for at, states in enumerate(classes) for state in states}
    return [(one, other) for one, other in reference.pairs(store)
            if reference.agree(one, other, lots) and number[one] != number[other]]


class CommonKeysTest(PlanCase):
    def test_examples(self):
        self.same(common_keys(SUMS, []), (0, 1))
        self.same(common_keys(lots=[[1, 0], (1,)], store=SUMS), (1,))
        self.same(common_fault(SUMS, [(0,), (1,)]), ((0, 2), (1, 1)))
        self.same(common_fault(lots=([0], [1]), store=SQUARE), None)
        self.same(sure_lots(SUMS, [(0,), (1,)]), ((0,), (1,)))
        self.same(surely_tells(SUMS, [(0,), (1,)], ()), False)
        self.same(adds(SQUARE, [(0,)], (0, 1)), False)

    def test_by_definition(self):
        for store in small_stores():
            joined = is_joined(store)
            for lots in some_lots(store, 2):
                classes = alike(store, lots)
                keys = common(store, lots)
                self.same(common_keys(store, as_lists(lots)), keys)
                telling = [lot for lot in reference.lots(store.key_count) if not unlike_pairs(store, lot, classes)]
                for lot in reference.lots(store.key_count):
                    self.same(surely_tells(store, lots, list(lot)[::-1]), lot in telling)
                    self.same(adds(store, lots, lot), lot not in telling)
                self.same(sure_lots(store, lots), reference.least_of(telling))
                faults = unlike_pairs(store, keys, classes)
                self.same(common_fault(store, lots), min(faults, default=None))
                self.assertEqual(not faults, keys in telling)
                if joined:
                    self.assertFalse(faults)
                    changing = {key for key in keys if any(reference.apart(*pair) == (key,) for pair in reference.pairs(store))}
                    self.assertEqual(telling, [lot for lot in reference.lots(store.key_count) if changing <= set(lot)])
                question = class_question(store, lots)
                turning = {key for key in range(store.key_count) if reference.turning_pairs(store, question, key)}
                self.assertTrue(all(turning <= set(lot) for lot in telling))

    def test_by_all_questions(self):
        for store in (SQUARE, SUMS, ONE, Store([2, 2, 2], [(0, 0, 0), (0, 1, 1), (1, 0, 1), (1, 1, 0)])):
            count = len(store.states)
            questions = list(itertools.product(range(count), repeat=count))
            for lots in some_lots(store, 4):
                fits = [question for question in questions if all(reference.tells(store, question, lot) for lot in lots)]
                for lot in reference.lots(store.key_count):
                    wanted = all(reference.tells(store, question, lot) for question in fits)
                    self.same((surely_tells(store, lots, lot), adds(store, lots, lot)), (wanted, not wanted))

    def test_a_further_plan_adds_if_there_are_fewer_classes_then(self):
        for store in small_stores():
            for lots in list(some_lots(store, 5))[:6]:
                for lot in reference.lots(store.key_count)[::2]:
                    before, after = sure_classes(store, lots), sure_classes(store, lots + [lot])
                    self.assertEqual(adds(store, lots, lot), len(after) < len(before))
                    self.assertEqual(adds(store, lots, lot), after != before)

    def test_no_lots_and_the_empty_lot(self):
        self.same(common_keys(SQUARE, ()), (0, 1))
        self.same(common_fault(SQUARE, []), None)
        self.same(sure_lots(SQUARE, []), ((0, 1),))
        self.same(sure_lots(SUMS, []), ((0,), (1,)))
        self.same(common_keys(SQUARE, [[]]), ())
        self.same(sure_lots(SQUARE, [[]]), ((),))
        self.same(adds(SQUARE, [], [0, 1]), False)
        self.same(adds(SQUARE, [[]], []), False)

    def test_refusals(self):
        check_lots_refused(self, common_keys)
        check_lots_refused(self, sure_lots)
        check_lots_refused(self, common_fault)
        check_lots_refused(self, enough_plans)
        for function in (surely_tells, adds):
            check_lots_refused(self, function, None)
            check_lots_refused(self, function, [7])
            for value in no_sequences():
                self.refuses(InvalidLot, 0, function, SQUARE, [], value)
            for number in no_numbers():
                self.refuses(InvalidLot, 1, function, SQUARE, [[0]], [1, number])
            self.refuses(InvalidLot, 2, function, SQUARE, [[0]], (0, 1, 1))

    def test_at_the_limits(self):
        for store in limit_stores():
            joined = is_joined(store)
            for lots in list(some_lots(store, 6))[3:]:
                question = class_question(store, lots)
                told = reference.answers(store, question)
                keys = common(store, lots)
                self.same(common_keys(store, lots), keys)
                fault = common_fault(store, lots)
                self.same(surely_tells(store, lots, keys), fault is None)
                if fault is not None:
                    self.assertFalse(joined)
                    self.assertTrue(fault[0] < fault[1] and reference.agree(*fault, keys) and told[fault[0]] != told[fault[1]])
                for lot in sure_lots(store, lots)[:5]:
                    self.same(adds(store, lots, lot), False)
                    for key in lot:
                        self.same(adds(store, lots, [left for left in lot if left != key]), True)


class EnoughPlansTest(PlanCase):
    def are_enough(self, store, lots, indexes):
        wanted = alike(store, lots)
        if alike(store, [lots[at] for at in indexes]) != wanted:
            return False
        return not any(alike(store, [lots[at] for at in indexes if at != out]) == wanted for out in indexes)

    def test_examples(self):
        self.same(enough_plans(SQUARE, [(0, 1), (1,)]), (1,))
        self.same(enough_plans(lots=[], store=SQUARE), ())
        self.same(enough_plans(ONE, [[0], []]), ())
        self.same(are_enough_plans(SQUARE, [(0, 1), (1,)], (1,)), True)
        self.same(are_enough_plans(value=(0, 1), lots=[[1, 0], [1]], store=SQUARE), False)
        self.assertIn(enough_plans(SQUARE, [[0], [1], []]), ((0, 1), (2,)))

    def test_some_such_indexes(self):
        for store in small_stores():
            for lots in some_lots(store, 7):
                found = enough_plans(store, as_lists(lots))
                self.assertTrue(type(found) is tuple and list(found) == sorted(set(found)))
                self.assertTrue(self.are_enough(store, lots, found))
                self.same(are_enough_plans(store, lots, found), True)
                self.assertLess(len(found), len(store.states))

    def test_all_indexes(self):
        for store in list(small_stores())[::9]:
            for lots in list(some_lots(store, 8))[2:]:
                for size in range(len(lots) + 1):
                    for indexes in itertools.combinations(range(len(lots)), size):
                        self.same(are_enough_plans(store, lots, indexes), self.are_enough(store, lots, indexes))

    def test_values_that_are_none(self):
        lots = [(0,), (1,), (0,)]
        self.same([are_enough_plans(SQUARE, lots, value) for value in ((0, 1), (1, 2), (0, 2), (0, 1, 2), ())],
                  [True, True, False, False, False])
        for value in no_entries() + [[0, 1], [1, 2], (1, 0), (0, 0, 1), (0, 1, 1), (False, 1), (0, True), (0, 1.0), (0, 3), (-1, 1),
                                     (1, -1), (0, 1, None), ((0, 1),), "01", (10 ** 30,)]:
            self.same(are_enough_plans(SQUARE, lots, value), False)
        for number in no_numbers():
            self.same(are_enough_plans(SQUARE, lots, (number, 2)), False)
        self.same(are_enough_plans(SQUARE, [], ()), True)
        self.same(are_enough_plans(SQUARE, [], []), False)
        self.same(are_enough_plans(SQUARE, [[0, 1], [1, 0]], ()), True)

    def test_refusals(self):
        check_lots_refused(self, are_enough_plans, ())
        check_lots_refused(self, are_enough_plans, None)

    def test_at_the_limits(self):
        chance = random.Random(45)
        for store in limit_stores():
            every = reference.lots(8)
            chance.shuffle(every)
            for lots in (every, every * 2, [lot for lot in every if len(lot) > 5], [lot for lot in every if len(lot) == 6] * 3):
                found = enough_plans(store, lots)
                self.same(are_enough_plans(store, lots, found), True)
                self.same(are_enough_plans(store, lots, found[1:]), False)
                chosen = [lots[at] for at in found]
                wanted = sure_classes(store, lots)
                self.same(sure_classes(store, chosen), wanted)
                for at in range(len(chosen)):
                    self.assertNotEqual(sure_classes(store, chosen[:at] + chosen[at + 1:]), wanted)


if __name__ == "__main__":
    unittest.main()
