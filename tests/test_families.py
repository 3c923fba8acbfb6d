"""Points [13] and [14]: any family, and what a lot tells of other keys."""

import itertools
import random
import unittest

from bothplans.errors import InvalidLot, Refused
from bothplans.families import family_store, full_lots, told_keys, tells_more
from bothplans.least import least_lots
from bothplans.questions import value_question
from bothplans.stores import Store
from bothplans.telling import tells
from tests import reference
from tests.support import (
    PlanCase, full_store, limit_stores, no_numbers, no_sequences, small_stores, some_questions,
)

SUMS = Store([3, 3], [(0, 2), (1, 1), (2, 0)])
SQUARE = full_store(2, 2)


def family_as_told(keys, lots):
    """The states and the answers, word by word."""
    is_open = [lot for lot in reference.lots(keys) if not any(set(told) <= set(lot) for told in lots)]
    widest = [lot for lot in is_open if not any(set(lot) < set(other) for other in is_open)]
    rows = {(0,) * keys: 0}
    for lot in widest:
        rows[tuple(0 if key in lot else 1 for key in range(keys))] = 1
    return tuple(sorted(rows)), tuple(rows[row] for row in sorted(rows))


class FamilyTest(PlanCase):
    def check(self, keys, lots):
        told = family_store(keys, lots)
        self.assertIs(type(told), tuple)
        store, question = told
        self.same(store.sizes, (2,) * keys)
        self.same((store.states, question), family_as_told(keys, lots))
        for lot in reference.lots(keys):
            self.assertEqual(tells(store, question, lot), any(set(told) <= set(lot) for told in lots))
        self.assertEqual(least_lots(store, question), reference.least_of([tuple(sorted(lot)) for lot in lots]))

    def test_example(self):
        store, question = family_store(3, [[0], [2, 1]])
        self.same(store.states, ((0, 0, 0), (1, 0, 1), (1, 1, 0)))
        self.same(question, (0, 1, 1))
        self.same(least_lots(store, question), ((0,), (1, 2)))

    def test_the_empty_lot_is_in_it(self):
        for lots in ([[]], [()], [[], [0, 1]], [[2], [], []]):
            store, question = family_store(3, lots)
            self.same(store.states, ((0, 0, 0),))
            self.same(question, (0,))
            self.check(3, lots)

    def test_all_keys_equal_lots_and_a_lot_within_another_one(self):
        for lots in ([[0, 1, 2]], [[0, 1], [1, 0]], [[0], [0, 1]], [[0, 1, 2], [1], [1, 2]], [[0], [1], [2]]):
            self.check(3, lots)
        self.check(1, [[0]])
        self.check(1, [[]])

    def test_every_family_of_three_keys(self):
        lots = reference.lots(3)
        for mask in range(1, 1 << len(lots)):
            self.check(3, [lot for at, lot in enumerate(lots) if mask >> at & 1])

    def test_lists_tuples_and_names(self):
        wanted = family_store(4, [[0, 3], [2, 1]])
        for lots in (((0, 3), (2, 1)), [(3, 0), [1, 2]], ([1, 2], [0, 3])):
            self.assertEqual(family_store(keys=4, lots=lots), wanted)
            self.assertEqual(family_store(lots=lots, keys=4), wanted)

    def test_the_argument_is_not_changed(self):
        lots = [[2, 0], [1]]
        family_store(3, lots)
        self.assertEqual(lots, [[2, 0], [1]])

    def test_no_sequence(self):
        for value in no_sequences():
            self.refuses(InvalidLot, 0, family_store, 3, value)

    def test_the_first_entry_that_is_no_lot(self):
        for value in no_sequences() + [[3], [0, 3], [0, 0], [1, 0, 1], [-1]]:
            self.refuses(InvalidLot, 0, family_store, 3, [value])
            self.refuses(InvalidLot, 1, family_store, 3, [[0], value])
            self.refuses(InvalidLot, 2, family_store, 3, ((2, 1), (), value, value))
        for number in no_numbers():
            self.refuses(InvalidLot, 1, family_store, 3, [[], [0, number]])

    def test_no_lot_at_all(self):
        self.refuses(Refused, 0, family_store, 3, [])
        self.refuses(Refused, 0, family_store, 3, ())

    def test_at_the_limits(self):
        chance = random.Random(3)
        self.check(8, list(itertools.combinations(range(8), 4)))
        self.check(8, [[key] for key in range(8)])
        self.check(8, [list(range(8))])
        for _ in range(4):
            self.check(8, [chance.sample(range(8), chance.randrange(2, 6)) for _ in range(12)])


class ToldKeysTest(PlanCase):
    def test_examples(self):
        self.same(told_keys(SUMS, [1]), (0, 1))
        self.same(told_keys(SUMS, []), ())
        self.same(told_keys(SQUARE, [1]), (1,))
        self.same(told_keys(Store([2, 3], [(1, 2)]), ()), (0, 1))
        self.same(told_keys(lot=(0,), store=Store([3, 2], [(0, 0), (1, 0), (2, 1)])), (0, 1))
        self.same(told_keys(Store([3, 2], [(0, 0), (1, 0), (2, 1)]), [1]), (1,))

    def test_the_keys_whose_value_it_tells(self):
        for store in small_stores():
            for lot in reference.lots(store.key_count):
                wanted = tuple(key for key in range(store.key_count)
                               if reference.tells(store, value_question(store, key), lot))
                self.same(told_keys(store, list(lot)[::-1]), wanted)

    def test_no_lot(self):
        self.refuses(InvalidLot, 0, told_keys, SQUARE, None)
        self.refuses(InvalidLot, 1, told_keys, SQUARE, [0, 2])
        self.refuses(InvalidLot, 1, told_keys, SQUARE, [0, True])


class TellsMoreTest(PlanCase):
    def test_examples(self):
        self.same(tells_more(SUMS, [0], [1]), True)
        self.same(tells_more(SUMS, [], [1]), False)
        self.same(tells_more(SQUARE, [0], [1]), False)
        self.same(tells_more(SQUARE, [0], []), True)
        self.same(tells_more(store=SQUARE, other=(1, 0), one=(0, 1)), True)

    def test_each_question_that_the_second_one_tells(self):
        for store in small_stores():
            for one in reference.lots(store.key_count):
                for other in reference.lots(store.key_count):
                    # The views on the second lot, numbered, are a question from which all others follow that it tells.
                    seen = [tuple(state[key] for key in other) for state in store.states]
                    question = tuple(seen.index(row) for row in seen)
                    self.same(tells_more(store, one, other), reference.tells(store, question, one))

    def test_lots_are_checked_from_left_to_right(self):
        self.refuses(InvalidLot, 1, tells_more, SQUARE, [0, 0], [7])
        self.refuses(InvalidLot, 0, tells_more, SQUARE, None, [1, 7])
        self.refuses(InvalidLot, 1, tells_more, SQUARE, [0], [1, 7])
        self.refuses(InvalidLot, 0, tells_more, SQUARE, [0], "01")
        self.refuses(InvalidLot, 1, tells_more, SQUARE, [0], [1, False])


class FullLotsTest(PlanCase):
    def test_examples(self):
        self.same(full_lots(SUMS), ((0,), (1,)))
        self.same(full_lots(store=SQUARE), ((0, 1),))
        self.same(full_lots(Store([2, 3], [(1, 2)])), ((),))

    def test_no_two_states_agree_on_them(self):
        for store in small_stores():
            parts = [lot for lot in reference.lots(store.key_count)
                     if not any(reference.agree(one, other, lot) for one, other in reference.pairs(store))]
            self.same(full_lots(store), reference.least_of(parts))

    def test_facts(self):
        for store in small_stores():
            own = tuple(range(len(store.states)))
            self.same(full_lots(store), least_lots(store, own))
            for lot in full_lots(store):
                for question in some_questions(store):
                    self.assertTrue(tells(store, question, lot))

    def test_at_the_limits(self):
        for store in limit_stores():
            found = full_lots(store)
            self.assertTrue(found)
            for lot in reference.lots(8):
                views = {tuple(state[key] for key in lot) for state in store.states}
                self.assertEqual(len(views) == len(store.states), any(set(one) <= set(lot) for one in found))
            for lot in reference.lots(8)[::17]:
                told = told_keys(store, lot)
                self.assertEqual(tells_more(store, lot, told), True)
                self.assertEqual(set(lot) <= set(told), True)


if __name__ == "__main__":
    unittest.main()
