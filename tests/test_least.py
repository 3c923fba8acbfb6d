"""Points [11] and [12]: least lots, parting lots, papers."""

import itertools
import unittest

from bothplans.errors import InvalidLot, InvalidQuestion
from bothplans.least import (
    idle_keys, is_least_paper, least_lots, least_paper, needed_keys, parting_lots,
)
from bothplans.stores import Store
from bothplans.telling import tells
from tests import reference
from tests.support import (
    PlanCase, as_lists, full_store, limit_stores, no_entries, small_stores, some_questions,
)

SUMS = Store([3, 3], [(0, 2), (1, 1), (2, 0)])
SQUARE = full_store(2, 2)
ONE = Store([2, 3], [(1, 2)])


def all_cases(seed=0):
    for store in small_stores():
        for question in some_questions(store, seed):
            yield store, question


class LotsTest(PlanCase):
    def test_examples(self):
        self.same(least_lots(SUMS, (0, 1, 2)), ((0,), (1,)))
        self.same(needed_keys(SUMS, (0, 1, 2)), ())
        self.same(parting_lots(SUMS, (0, 1, 2)), ((0, 1),))
        self.same(least_lots(SQUARE, (0, 0, 0, 5)), ((0, 1),))
        self.same(parting_lots(SQUARE, (0, 0, 0, 5)), ((0,), (1,)))
        self.same(idle_keys(SQUARE, (7, 7, 4, 4)), (1,))
        self.same(needed_keys(SQUARE, (7, 7, 4, 4)), (0,))

    def test_one_answer_needs_nothing(self):
        for store in (SUMS, SQUARE, ONE):
            question = [4] * len(store.states)
            self.same(least_lots(store, question), ((),))
            self.same(parting_lots(store, question), ())
            self.same(needed_keys(store, question), ())
            self.same(idle_keys(store, question), (0, 1))

    def test_by_name_and_lists(self):
        for function in (least_lots, parting_lots, needed_keys, idle_keys):
            for question in ((7, 7, 4, 4), (0, 1, 1, 0), (0, 1, 2, 3)):
                wanted = function(SQUARE, question)
                self.same(function(store=SQUARE, question=list(question)), wanted)

    def test_no_question(self):
        for function in (least_lots, parting_lots, needed_keys, idle_keys):
            for value in no_entries() + [(0, 1, 2), (0, 1, 2, True), (0, 1, 2, -3), ()]:
                self.refuses(InvalidQuestion, 0, function, SQUARE, value)

    def test_as_defined(self):
        for store, question in all_cases():
            least = reference.least_lots(store, question)
            keys = range(store.key_count)
            self.same(least_lots(store, question), least)
            self.same(parting_lots(store, question), reference.parting_lots(store, question))
            telling = [lot for lot in reference.lots(store.key_count) if reference.tells(store, question, lot)]
            self.same(needed_keys(store, question), tuple(k for k in keys if all(k in lot for lot in telling)))
            self.same(idle_keys(store, question), tuple(k for k in keys if not any(k in lot for lot in least)))

    def test_facts(self):
        for store, question in all_cases(1):
            parting = parting_lots(store, question)
            for lot in reference.lots(store.key_count):
                self.assertEqual(tells(store, question, lot), all(set(lot) & set(part) for part in parting))
            self.same(needed_keys(store, question), tuple(part[0] for part in parting if len(part) == 1))
            keys = range(store.key_count)
            self.same(idle_keys(store, question), tuple(k for k in keys if not any(k in part for part in parting)))

    def test_at_the_limits(self):
        for store in limit_stores():
            for question in some_questions(store):
                least = least_lots(store, question)
                parting = parting_lots(store, question)
                told = reference.answers(store, question)
                apart = [set(reference.apart(*pair)) for pair in reference.pairs(store)
                         if told[pair[0]] != told[pair[1]]]
                self.same(least, tuple(sorted(set(least))))
                self.same(parting, tuple(sorted(set(parting))))
                for lot in least:
                    self.assertTrue(all(set(lot) & keys for keys in apart))
                for key_set in map(set, parting):
                    self.assertIn(key_set, apart)
                self.assertTrue(all(any(set(part) <= keys for part in parting) for keys in apart))
                for lot in reference.lots(8):
                    hits = all(set(lot) & set(part) for part in parting)
                    self.assertEqual(hits, any(set(one) <= set(lot) for one in least))


class PaperTest(PlanCase):
    def test_examples(self):
        self.same(is_least_paper(SQUARE, (7, 7, 4, 4), [0], (((0, 1), (1, 0)),)), True)
        self.same(is_least_paper(SQUARE, (7, 7, 4, 4), [0], (((1, 0), (0, 1)),)), True)
        self.same(is_least_paper(SQUARE, (7, 7, 4, 4), [0, 1], (((0, 1), (1, 1)), ((0, 0), (0, 1)))), False)
        self.assertIsNone(least_paper(SQUARE, (7, 7, 4, 4), [0, 1]))
        self.assertIsNone(least_paper(SQUARE, (7, 7, 4, 4), [1]))
        self.same(least_paper(SQUARE, (7, 7, 7, 7), []), ())
        self.same(is_least_paper(SQUARE, (7, 7, 7, 7), [], ()), True)
        self.same(is_least_paper(SQUARE, (7, 7, 7, 8), [], ()), False)

    def test_a_paper_just_for_least_lots(self):
        for store, question in all_cases():
            least = reference.least_lots(store, question)
            for lot in reference.lots(store.key_count):
                paper = least_paper(store, question, list(lot))
                if lot in least:
                    self.assertTrue(reference.is_paper(store, question, lot, paper))
                    self.assertEqual(repr(paper), repr(tuple(paper)))
                    self.same(is_least_paper(store, question, lot, paper), True)
                else:
                    self.assertIsNone(paper)

    def test_which_values_are_papers(self):
        stores = [store for store in small_stores() if store.key_count == 2 and 1 < len(store.states) < 5]
        for store in stores:
            pairs = list(itertools.product(store.states, repeat=2))
            for question in some_questions(store):
                for lot in reference.lots(2):
                    told = reference.tells(store, question, lot)
                    for value in itertools.product(pairs, repeat=len(lot)):
                        wanted = told and reference.is_paper(store, question, lot, value)
                        self.same(is_least_paper(store, question, lot, value), wanted)

    def test_the_pairs_stand_in_the_order_of_the_keys(self):
        first, second = ((0, 1), (1, 1)), ((1, 0), (1, 1))
        self.same(is_least_paper(SQUARE, (0, 0, 0, 5), [1, 0], (first, second)), True)
        self.same(is_least_paper(SQUARE, (0, 0, 0, 5), [1, 0], (second, first)), False)
        self.same(is_least_paper(store=SQUARE, question=[0, 0, 0, 5], lot=(0, 1), value=(first, second)), True)

    def test_a_paper_without_a_lot_that_tells_is_none(self):
        cube = full_store(2, 2, 2)
        question = (0, 1, 1, 0, 1, 0, 0, 1)
        paper = (((0, 0, 0), (1, 0, 0)),)
        self.assertTrue(reference.is_paper(cube, question, (0,), paper))
        self.same(is_least_paper(cube, question, [0], paper), False)

    def test_other_values_are_none(self):
        question = (0, 0, 0, 5)
        right = (((0, 1), (1, 1)), ((1, 0), (1, 1)))
        self.same(is_least_paper(SQUARE, question, [0, 1], right), True)
        wrong = no_entries() + [
            as_lists(right), list(right), (list(right[0]), right[1]), (right[0], ((1, 0), [1, 1])), right[:1],
            right + right[1:], (right[0], right[1] + right[1]), (right[0], ((1, 0),)), (right[0], None),
            (((0, True), (1, 1)), right[1]), (((0, 1.0), (1, 1)), right[1]), (((0, 1), (1, 2)), right[1]),
            (right[0], ((1, 0), (1, 1, 0))), (((0, 1), (0, 1)), right[1]), (right,), right[0],
        ]
        for value in wrong:
            self.same(is_least_paper(SQUARE, question, [0, 1], value), False)

    def test_errors_from_left_to_right(self):
        for function, more in ((least_paper, ()), (is_least_paper, (None,))):
            self.refuses(InvalidQuestion, 0, function, SQUARE, (0, 0, True, 5), [9], *more)
            self.refuses(InvalidQuestion, 0, function, SQUARE, None, None, *more)
            self.refuses(InvalidLot, 1, function, SQUARE, (0, 0, 0, 5), [1, 9], *more)
            self.refuses(InvalidLot, 0, function, SQUARE, (0, 0, 0, 5), None, *more)

    def test_at_the_limits(self):
        for store in limit_stores():
            for question in some_questions(store):
                for lot in least_lots(store, question):
                    paper = least_paper(store=store, question=question, lot=lot)
                    self.assertTrue(reference.is_paper(store, question, lot, paper))
                    self.same(is_least_paper(store, question, lot, paper), True)
                    for key in lot:
                        self.assertIsNone(least_paper(store, question, [left for left in lot if left != key]))
                    if len(lot) < 8:
                        wider = set(range(8)) - set(lot)
                        self.assertIsNone(least_paper(store, question, list(lot) + [min(wider)]))


if __name__ == "__main__":
    unittest.main()
