"""Point [10]: lots that tell."""

import unittest

from bothplans.errors import InvalidLot, InvalidQuestion, Refused
from bothplans.questions import value_question
from bothplans.stores import Store
from bothplans.telling import fault, is_fault, plan_table, tells
from tests import reference
from tests.support import (
    PlanCase, as_lists, full_store, limit_stores, no_entries, small_stores, some_questions,
)

SUMS = Store([3, 3], [(0, 2), (1, 1), (2, 0)])
SQUARE = full_store(2, 2)
ONE = Store([2, 3], [(1, 2)])


class TellsTest(PlanCase):
    def test_examples(self):
        self.same(tells(SQUARE, (0, 0, 0, 5), [0]), False)
        self.same(tells(SQUARE, [0, 0, 5, 5], [0]), True)
        self.same(tells(SUMS, (0, 1, 2), (0,)), True)
        self.same(tells(SUMS, (0, 1, 2), (1,)), True)
        self.same(tells(SUMS, (0, 1, 2), ()), False)
        self.same(tells(lot=[1, 0], question=[0, 0, 0, 5], store=SQUARE), True)
        self.same(tells(ONE, [7], []), True)

    def test_states_that_agree_have_one_answer(self):
        for store in small_stores():
            for question in some_questions(store):
                for lot in reference.lots(store.key_count):
                    self.same(tells(store, question, list(lot)[::-1]), reference.tells(store, question, lot))

    def test_facts(self):
        for store in small_stores():
            for question in some_questions(store):
                self.same(tells(store, question, tuple(range(store.key_count))), True)
                self.same(tells(store, question, ()), len(set(question)) == 1)

    def test_the_question_is_checked_before_the_lot(self):
        for function in (tells, fault, plan_table):
            self.refuses(InvalidQuestion, 0, function, SQUARE, (0, 0, 0), [5])
            self.refuses(InvalidQuestion, 0, function, SQUARE, None, None)
            self.refuses(InvalidQuestion, 0, function, SQUARE, (0, 0, 0, True), [0])
            self.refuses(InvalidLot, 1, function, SQUARE, [0, 0, 0, 1], [0, 5])
            self.refuses(InvalidLot, 1, function, SQUARE, [0, 0, 0, 1], [0, True])
            self.refuses(InvalidLot, 0, function, SQUARE, [0, 0, 0, 1], 0)


class FaultTest(PlanCase):
    def test_some_fault_if_the_lot_does_not_tell(self):
        for store in small_stores():
            for question in some_questions(store):
                for lot in reference.lots(store.key_count):
                    faults = reference.faults(store, question, lot)
                    found = fault(store, question, lot)
                    if faults:
                        self.assertIn(found, faults)
                        self.same(is_fault(store, question, lot, found), True)
                    else:
                        self.assertIsNone(found)

    def test_by_name(self):
        self.assertIsNone(fault(store=SQUARE, question=(1, 1, 1, 1), lot=[]))
        found = fault(lot=(), store=SQUARE, question=(1, 1, 1, 2))
        self.same(is_fault(value=found, lot=(), question=[1, 1, 1, 2], store=SQUARE), True)

    def test_which_pairs_are_faults(self):
        for store in small_stores():
            for question in some_questions(store, 1):
                for lot in reference.lots(store.key_count):
                    faults = reference.faults(store, question, lot)
                    for pair in reference.pairs(store):
                        self.same(is_fault(store, question, lot, pair), pair in faults)
                        self.same(is_fault(store, question, lot, pair[::-1]), False)

    def test_other_values_are_none(self):
        question = (0, 0, 0, 5)
        right = ((1, 0), (1, 1))
        self.same(is_fault(SQUARE, question, [0], right), True)
        wrong = no_entries() + [
            as_lists(right), list(right), ([1, 0], (1, 1)), ((1, 0), [1, 1]), right + right, right[:1], (right,),
            ((1, False), (1, 1)), ((1, 0), (1, True)), ((1, 0), (True, 1)), ((1.0, 0), (1, 1)), ((1, 0), (1, 2)),
            ((1, 0), (1, 1, 1)), ((1, 0), None), (None, (1, 1)), ((1, 0), (1, 0)), ((1, 1), (1, 1)),
        ]
        for value in wrong:
            self.same(is_fault(SQUARE, question, [0], value), False)
        self.same(is_fault(SUMS, (0, 1, 2), (), ((0, 0), (1, 1))), False)

    def test_question_and_lot_are_checked_before_the_value(self):
        self.refuses(InvalidQuestion, 0, is_fault, SQUARE, (0,), [7], None)
        self.refuses(InvalidLot, 0, is_fault, SQUARE, (0, 0, 0, 0), [7], None)
        self.refuses(InvalidLot, 1, is_fault, SQUARE, (0, 0, 0, 0), [1, 1], ((1, 0), (1, 1)))


class TableTest(PlanCase):
    def test_examples(self):
        self.same(plan_table(SQUARE, (7, 7, 4, 4), [0]), (((0,), 7), ((1,), 4)))
        self.same(plan_table(SUMS, [5, 6, 7], [1]), (((0,), 7), ((1,), 6), ((2,), 5)))
        self.same(plan_table(SQUARE, [3, 3, 3, 3], ()), (((), 3),))
        self.same(plan_table(lot=[1, 0], store=ONE, question=[9]), (((1, 2), 9),))

    def test_views_and_answers(self):
        for store in small_stores():
            for question in some_questions(store):
                told = reference.answers(store, question)
                for lot in reference.lots(store.key_count):
                    rows = {(tuple(state[key] for key in lot), told[state]) for state in store.states}
                    if reference.tells(store, question, lot):
                        self.same(plan_table(store, list(question), list(lot)), tuple(sorted(rows)))
                    else:
                        self.refuses(Refused, 0, plan_table, store, question, lot)

    def test_errors_come_before_the_refusal(self):
        self.refuses(InvalidLot, 0, plan_table, SQUARE, (0, 0, 0, 1), [2])
        self.refuses(Refused, 0, plan_table, SQUARE, (0, 0, 0, 1), [])

    def test_at_the_limits(self):
        for store in limit_stores():
            for key in range(8):
                question = value_question(store, key)
                self.same(tells(store, question, [key]), True)
                self.same(plan_table(store, question, [key]), tuple(((k,), k) for k in sorted(set(question))))
                others = [k for k in range(8) if k != key]
                found = fault(store, question, others)
                self.same(found is None, tells(store, question, others))
                if found is not None:
                    self.same(is_fault(store, question, others, found), True)
                    self.assertEqual(reference.apart(*found), (key,))


if __name__ == "__main__":
    unittest.main()
