"""Point [17]: what an answer rests on."""

import itertools
import unittest

from bothplans.chains import is_joined
from bothplans.errors import InvalidLot, InvalidQuestion, Refused
from bothplans.least import least_lots, needed_keys
from bothplans.stores import Store
from bothplans.telling import tells
from bothplans.turnings import is_turning_paper, rests_on, turning_paper
from tests import reference
from tests.support import (
    PlanCase, as_lists, full_store, limit_stores, no_entries, small_stores, some_questions,
)

SUMS = Store([3, 3], [(0, 2), (1, 1), (2, 0)])
SQUARE = full_store(2, 2)
ONE = Store([2, 3], [(1, 2)])


def neighbour_pairs(store):
    return [pair for pair in reference.pairs(store) if reference.are_neighbours(*pair)]


def turned_by(store, question, changes, key):
    told = reference.answers(store, question)
    return [(one, other) for one, other in changes if one[key] != other[key] and told[one] != told[other]]


class RestsOnTest(PlanCase):
    def test_examples(self):
        self.same(rests_on(SQUARE, (3, 3, 4, 4)), (0,))
        self.same(rests_on(SQUARE, [0, 0, 0, 5]), (0, 1))
        self.same(rests_on(question=[3, 3, 3, 3], store=SQUARE), ())
        self.same(rests_on(ONE, [0]), ())

    def test_the_keys_that_turn_a_question(self):
        for store in small_stores():
            joined = reference.unjoined(store) is None
            for question in some_questions(store):
                turning = tuple(key for key in range(store.key_count)
                                if reference.turning_pairs(store, question, key))
                if joined:
                    self.same(rests_on(store, question), turning)
                    self.same(least_lots(store, question), (turning,))
                else:
                    self.refuses(Refused, 0, rests_on, store, question)
                self.same(needed_keys(store, question), turning)

    def test_the_refusal_comes_before_the_question(self):
        for value in no_entries() + [(0, 1), (0, 1, True)]:
            self.refuses(Refused, 0, rests_on, SUMS, value)
        for value in no_entries() + [(0, 1, 2), (0, 1, 2, True), (0, 1, 2, 3, 4)]:
            self.refuses(InvalidQuestion, 0, rests_on, SQUARE, value)

    def test_a_store_is_joined_if_the_turning_keys_always_tell(self):
        for store in small_stores():
            if reference.unjoined(store) is not None:
                keys = range(store.key_count)
                questions = [tuple(reference.islands(store, lot).index(island) for state in store.states
                                   for island in reference.islands(store, lot) if state in island)
                             for lot in reference.lots(store.key_count)]
                self.assertTrue(any(
                    not tells(store, question,
                              [key for key in keys if reference.turning_pairs(store, question, key)])
                    for question in questions))

    def test_at_the_limits(self):
        for store in limit_stores():
            changes = neighbour_pairs(store)
            for question in some_questions(store):
                turning = tuple(key for key in range(8) if turned_by(store, question, changes, key))
                if is_joined(store):
                    self.same(rests_on(store, question), turning)
                else:
                    self.refuses(Refused, 0, rests_on, store, question)


class TurningPaperTest(PlanCase):
    def test_examples(self):
        self.same(turning_paper(SQUARE, (3, 3, 4, 4)), (((0, 0), (1, 0)),))
        self.same(turning_paper(SUMS, (0, 1, 1)), ())
        self.same(turning_paper(SQUARE, [0, 0, 0, 5]), (((0, 1), (1, 1)), ((1, 0), (1, 1))))
        self.same(turning_paper(store=Store([4], [[0], [1], [2], [3]]), question=[6, 6, 7, 6]), (((0,), (2,)),))
        self.same(turning_paper(ONE, (8,)), ())

    def test_the_first_pairs(self):
        for store in small_stores():
            for question in some_questions(store):
                pairs = [reference.turning_pairs(store, question, key) for key in range(store.key_count)]
                self.same(turning_paper(store, question), tuple(min(some) for some in pairs if some))

    def test_no_question(self):
        for value in no_entries() + [(0, 1), (0, 1, True), (0, 1, 2, 3)]:
            self.refuses(InvalidQuestion, 0, turning_paper, SUMS, value)

    def test_at_the_limits(self):
        for store in limit_stores():
            changes = neighbour_pairs(store)
            for question in some_questions(store):
                pairs = [turned_by(store, question, changes, key) for key in range(8)]
                self.same(turning_paper(store, question), tuple(min(some) for some in pairs if some))
                lot = [key for key in range(8) if pairs[key]]
                self.same(is_turning_paper(store, question, lot, turning_paper(store, question)), True)


class IsTurningPaperTest(PlanCase):
    def test_all_values_of_small_stores(self):
        for store in (SQUARE, SUMS, Store([3, 2], [(0, 0), (1, 0), (2, 1)]), Store([3], [[0], [1], [2]])):
            pairs = list(itertools.product(store.states, repeat=2))
            for question in some_questions(store):
                told = reference.answers(store, question)
                for lot in reference.lots(store.key_count):
                    for value in itertools.product(pairs, repeat=len(lot)):
                        wanted = all(reference.apart(*pair) == (key,) and told[pair[0]] != told[pair[1]]
                                     for key, pair in zip(lot, value))
                        self.same(is_turning_paper(store, question, lot, value), wanted)

    def test_a_lot_of_some_of_the_turning_keys(self):
        first, second = ((1, 1), (0, 1)), ((1, 0), (1, 1))
        for lot, value, wanted in (
            ([], (), True), ([0], (first,), True), ([1], (second,), True), ([1, 0], (first, second), True),
            ([1, 0], (second, first), False), ([0, 1], (first,), False), ([0], (first, second), False),
            ([], (first,), False), ([1], (first,), False),
        ):
            self.same(is_turning_paper(SQUARE, (0, 0, 0, 5), lot, value), wanted)
        self.same(is_turning_paper(value=(first,), lot=(0,), question=[0, 0, 0, 5], store=SQUARE), True)

    def test_other_values_are_none(self):
        right = (((0, 1), (1, 1)), ((1, 0), (1, 1)))
        self.same(is_turning_paper(SQUARE, (0, 0, 0, 5), [0, 1], right), True)
        wrong = no_entries() + [
            as_lists(right), list(right), (list(right[0]), right[1]), (((0, 1), [1, 1]), right[1]), (right[0], None),
            (((0, True), (1, 1)), right[1]), (((0, 1.0), (1, 1)), right[1]), (((0, 1), (2, 1)), right[1]),
            (right[0], right[1] + right[1]), (right[0], right[1][:1]), (((0, 0), (1, 0)), right[1]),
            (((0, 0), (1, 1)), right[1]), right[0], (right,),
        ]
        for value in wrong:
            self.same(is_turning_paper(SQUARE, (0, 0, 0, 5), [0, 1], value), False)
        self.same(is_turning_paper(SUMS, (0, 1, 2), [0], (((0, 2), (1, 2)),)), False)

    def test_errors_from_left_to_right(self):
        self.refuses(InvalidQuestion, 0, is_turning_paper, SQUARE, (0, 0), [5], None)
        self.refuses(InvalidQuestion, 0, is_turning_paper, SQUARE, (0, 0, 0, True), None, ())
        self.refuses(InvalidLot, 1, is_turning_paper, SQUARE, (0, 0, 0, 5), [0, 0], None)
        self.refuses(InvalidLot, 0, is_turning_paper, SQUARE, (0, 0, 0, 5), {}, ())


if __name__ == "__main__":
    unittest.main()
