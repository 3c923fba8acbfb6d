"""Points [7] and [8]: questions and what turns them."""

import unittest

from bothplans.errors import InvalidLot, InvalidQuestion, InvalidState
from bothplans.questions import answer, checked_question, classes, turning, value_question
from bothplans.stores import Store
from tests import reference
from tests.support import (
    PlanCase, full_store, limit_stores, no_entries, no_numbers, no_sequences, small_stores, some_questions,
)

SUMS = Store([3, 3], [(2, 0), (1, 1), (0, 2)])
SQUARE = full_store(2, 2)
NO_QUESTIONS = no_entries() + [(), (0, 1), (0, 1, 2, 3), (0, 1, -1), (0, 1, True), (False, 1, 2), (0, 1, 2.0),
                               (0, 1, "2"), (0, 1, None), (0, 1, (2,)), [(0, 2), (1, 1), (2, 0)]]


class QuestionTest(PlanCase):
    def test_a_number_for_each_state(self):
        for value in ([0, 1, 2], (0, 1, 2)):
            self.same(checked_question(SUMS, value), (0, 1, 2))
        self.same(checked_question(store=SUMS, value=[10 ** 50, 0, 0]), (10 ** 50, 0, 0))
        self.same(checked_question(Store([2], [[1]]), [9]), (9,))

    def test_what_is_no_question(self):
        for value in NO_QUESTIONS:
            self.refuses(InvalidQuestion, 0, checked_question, SUMS, value)
            self.refuses(InvalidQuestion, 0, classes, SUMS, value)
            self.refuses(InvalidQuestion, 0, turning, SUMS, value)
            self.refuses(InvalidQuestion, 0, answer, SUMS, value, (0, 2))
        for number in no_numbers():
            self.refuses(InvalidQuestion, 0, checked_question, SUMS, [number, 1, 1])
            self.refuses(InvalidQuestion, 0, checked_question, SUMS, (1, 1, number))

    def test_a_question_is_not_kept(self):
        told = [3, 4, 5]
        question = checked_question(SUMS, told)
        told[0] = 9
        self.same(question, (3, 4, 5))

    def test_answer(self):
        self.same(answer(SUMS, [5, 6, 7], (0, 2)), 5)
        self.same(answer(SUMS, (5, 6, 7), [2, 0]), 7)
        self.same(answer(state=[1, 1], question=(5, 6, 7), store=SUMS), 6)
        for store in small_stores():
            for question in some_questions(store):
                for state, told in zip(store.states, question):
                    self.same(answer(store, question, state), told)

    def test_answer_asks_for_the_question_first(self):
        self.refuses(InvalidQuestion, 0, answer, SUMS, (5, 6), (0, 0))
        for value in no_entries() + [(0, 0), (0, 2, 0), (False, 2)]:
            self.refuses(InvalidState, 0, answer, SUMS, (5, 6, 7), value)

    def test_value_question(self):
        self.same(value_question(SUMS, 0), (0, 1, 2))
        self.same(value_question(SUMS, 1), (2, 1, 0))
        self.same(value_question(store=SQUARE, key=1), (0, 1, 0, 1))
        for key in no_sequences()[5:] + no_numbers() + [2, 3, -1, 10 ** 20]:
            self.refuses(InvalidLot, 0, value_question, SUMS, key)


class ClassesTest(PlanCase):
    def test_examples(self):
        self.same(classes(SQUARE, (7, 0, 0, 7)), (((0, 0), (1, 1)), ((0, 1), (1, 0))))
        self.same(classes(SQUARE, [9, 1, 1, 1]), (((0, 0),), ((0, 1), (1, 0), (1, 1))))
        self.same(classes(question=[3, 2, 1], store=SUMS), (((0, 2),), ((1, 1),), ((2, 0),)))
        self.same(classes(Store([1], [[0]]), [4]), (((0,),),))

    def test_those_with_one_answer_stand_together(self):
        for store in small_stores():
            for question in some_questions(store):
                told = reference.answers(store, question)
                wanted = tuple(sorted({tuple(state for state in store.states if told[state] == told[first])
                                       for first in store.states}))
                self.same(classes(store, question), wanted)


class TurningTest(PlanCase):
    def test_examples(self):
        self.same(turning(SQUARE, (0, 0, 0, 5)), (((0, 1), (1, 1)), ((1, 0), (1, 1))))
        self.same(turning(SUMS, (0, 1, 2)), ())
        self.same(turning(store=SQUARE, question=[3, 3, 3, 3]), ())
        self.same(turning(Store([4], [[0], [1], [3]]), [5, 6, 5]), (((0,), (1,)), ((1,), (3,))))

    def test_neighbours_with_unlike_answers(self):
        for store in small_stores():
            for question in some_questions(store):
                wanted = sorted(pair for key in range(store.key_count)
                                for pair in reference.turning_pairs(store, question, key))
                self.same(turning(store, question), tuple(wanted))

    def test_at_the_limits(self):
        for store in limit_stores():
            for question in ((3,) * len(store.states), tuple(range(len(store.states)))):
                told = reference.answers(store, question)
                wanted = tuple((one, other) for one, other in reference.pairs(store)
                               if told[one] != told[other] and reference.are_neighbours(one, other))
                self.same(turning(store, question), wanted)


if __name__ == "__main__":
    unittest.main()
