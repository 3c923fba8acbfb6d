"""Point [39]: what told answers show, and of [1] to [4] what told answers are."""

import itertools
import random
import unittest

from bothplans.chains import is_joined
from bothplans.errors import InvalidLot, InvalidQuestion, Refused
from bothplans.least import least_lots
from bothplans.stores import Store
from bothplans.told import may_rest_on, open_keys, spare_keys, sure_keys
from tests import reference
from tests.asked import NO_PAIRS, joined_limit_stores, joined_stores, some_told, tiny_stores
from tests.support import PlanCase, full_store, limit_stores, no_entries, no_numbers, no_sequences, some_questions

SUMS = Store([3, 3], [(0, 2), (1, 1), (2, 0)])
SQUARE = full_store(2, 2)
ONE = Store([2, 3], [(1, 2)])
SOME = [((0, 0), 4), ((1, 0), 5), ((0, 1), 4)]

def fitting(questions, states, told):
    """The least lots of the questions that have the told answers."""
    places = [(states.index(state), answer) for state, answer in told]
    return {lot for question, lot in questions if all(question[place] == answer for place, answer in places)}


class ToldTest(PlanCase):
    def test_by_all_questions_that_fit(self):
        chance = random.Random(39)
        for store, count in tiny_stores():
            self.assertTrue(is_joined(store))
            questions = [(question, least_lots(store, question)[0])
                         for question in itertools.product(range(count), repeat=len(store.states))]
            for told in some_told(chance, store, 25):
                lots = fitting(questions, store.states, told)
                keys = range(store.key_count)
                sure = tuple(key for key in keys if all(key in lot for lot in lots))
                spare = tuple(key for key in keys if not any(key in lot for lot in lots))
                self.same(sure_keys(store, told), sure)
                self.same(spare_keys(store, told), spare)
                self.same(open_keys(store, told), tuple(key for key in keys if key not in sure + spare))
                for lot in reference.lots(store.key_count):
                    self.same(may_rest_on(store, told, lot), lot in lots)

    def test_by_neighbours(self):
        chance = random.Random(40)
        for store in joined_stores():
            for told in some_told(chance, store, 6):
                answers = dict(told)
                keys = range(store.key_count)
                changes = [[pair for pair in reference.pairs(store) if reference.apart(*pair) == (key,)] for key in keys]
                sure = tuple(key for key in keys if any(
                    one in answers and other in answers and answers[one] != answers[other] for one, other in changes[key]))
                spare = tuple(key for key in keys if all(
                    one in answers and other in answers and answers[one] == answers[other] for one, other in changes[key]))
                self.same((sure_keys(store, told), spare_keys(store, told)), (sure, spare))
                self.same(open_keys(store, told), tuple(key for key in keys if key not in sure + spare))

    def test_examples(self):
        self.same((sure_keys(SQUARE, SOME), spare_keys(SQUARE, SOME), may_rest_on(SQUARE, SOME, [0])), ((0,), (), True))
        self.same(open_keys(told=SOME, store=SQUARE), (1,))
        self.same(sure_keys(told=tuple(SOME), store=SQUARE), (0,))
        self.same(spare_keys(told=(((1, 1), 5),) + tuple(SOME), store=SQUARE), (1,))
        self.same(may_rest_on(lot=(1,), told=SOME, store=SQUARE), False)
        self.same([may_rest_on(SQUARE, SOME, lot) for lot in ([], [0], [1], [1, 0])], [False, True, False, True])

    def test_nothing_told_and_everything_told(self):
        for store in joined_stores():
            changing = tuple(key for key in range(store.key_count)
                             if any(reference.apart(*pair) == (key,) for pair in reference.pairs(store)))
            self.same((sure_keys(store, []), open_keys(store, ())), ((), changing))
            self.same(spare_keys(store, []), tuple(key for key in range(store.key_count) if key not in changing))
            for question in some_questions(store):
                told = list(zip(store.states, question))
                lot = least_lots(store, question)[0]
                self.same((sure_keys(store, told), open_keys(store, told)), (lot, ()))
                self.same(may_rest_on(store, told, lot), True)
                self.same(may_rest_on(store, told[::-1], range_without(store, lot)), lot == range_without(store, lot))
        for told in ([], [((1, 2), 7)]):
            self.same((sure_keys(ONE, told), spare_keys(ONE, told), open_keys(ONE, told)), ((), (0, 1), ()))
            self.same([may_rest_on(ONE, told, lot) for lot in ((), (0,), (1,), (0, 1))], [True, False, False, False])

    def test_states_in_lists_but_pairs_in_tuples(self):
        told = [([0, 0], 4), ([1, 0], 5), ((0, 1), 4)]
        self.same((sure_keys(SQUARE, told), open_keys(SQUARE, told), may_rest_on(SQUARE, told, (0,))), ((0,), (1,), True))
        for function in (sure_keys, spare_keys, open_keys):
            self.refuses(InvalidQuestion, 1, function, SQUARE, [((0, 0), 4), [(1, 0), 5]])

    def test_what_is_no_told_answers(self):
        for function, more in ((sure_keys, ()), (spare_keys, ()), (open_keys, ()), (may_rest_on, (None,))):
            for value in no_sequences():
                self.refuses(InvalidQuestion, 0, function, SQUARE, value, *more)
            for entry in no_entries() + NO_PAIRS:
                self.refuses(InvalidQuestion, 0, function, SQUARE, [entry], *more)
                self.refuses(InvalidQuestion, 2, function, SQUARE, SOME[:2] + [entry, entry], *more)
            for number in no_numbers():
                self.refuses(InvalidQuestion, 1, function, SQUARE, (SOME[0], ((1, 1), number)), *more)

    def test_a_state_told_twice(self):
        for answer in (4, 7):
            for state in ((1, 0), [1, 0]):
                self.refuses(InvalidQuestion, 3, sure_keys, SQUARE, SOME + [(state, answer), None])
                self.refuses(InvalidQuestion, 1, may_rest_on, SQUARE, [((1, 0), 5), (state, answer)], None)
        self.refuses(InvalidQuestion, 2, open_keys, SQUARE, [((1, 0), 5), ((1, 1), 5), ((0, 2), 5), ((1, 0), 5)])

    def test_a_lot_that_is_none(self):
        for value in no_sequences():
            self.refuses(InvalidLot, 0, may_rest_on, SQUARE, SOME, value)
        self.refuses(InvalidLot, 1, may_rest_on, SQUARE, [], [0, 2, 0])
        self.refuses(InvalidLot, 1, may_rest_on, SQUARE, [], [0, 0])
        self.refuses(InvalidLot, 1, may_rest_on, SQUARE, [], [0, True])

    def test_a_store_that_is_not_joined(self):
        for told in ([], [((0, 2), 1)], None, [None], [((5, 5), 1)]):
            for function in (sure_keys, spare_keys, open_keys):
                self.refuses(Refused, 0, function, SUMS, told)
            for lot in ((), None, [9]):
                self.refuses(Refused, 0, may_rest_on, SUMS, told, lot)

    def test_what_is_told_is_not_changed(self):
        told = [([0, 0], 4), ([1, 0], 5)]
        for function in (sure_keys, spare_keys, open_keys):
            function(SQUARE, told)
        may_rest_on(SQUARE, told, [0])
        self.assertEqual(told, [([0, 0], 4), ([1, 0], 5)])

    def test_at_the_limits(self):
        chance = random.Random(8)
        for store in joined_limit_stores():
            for question in some_questions(store):
                told = list(zip(store.states, question))
                lot = least_lots(store, question)[0]
                self.same((sure_keys(store, told), open_keys(store, told)), (lot, ()))
                self.same([may_rest_on(store, told, other) for other in (lot, (0,), tuple(range(8)))],
                          [other == lot for other in (lot, (0,), tuple(range(8)))])
                few = chance.sample(told, len(told) // 2)
                self.assertLessEqual(set(sure_keys(store, few)), set(lot))
                self.assertFalse(set(spare_keys(store, few)) & set(lot))
                self.same(may_rest_on(store, few, lot), True)
                self.same(sorted(sure_keys(store, few) + spare_keys(store, few) + open_keys(store, few)), list(range(8)))
        for store in limit_stores():
            if not is_joined(store):
                self.refuses(Refused, 0, sure_keys, store, [])


def range_without(store, lot):
    return tuple(key for key in range(store.key_count) if key not in lot)


if __name__ == "__main__":
    unittest.main()
