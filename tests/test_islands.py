"""Point [18]: islands and whole lots."""

import unittest

from bothplans.errors import InvalidLot
from bothplans.islands import island_question, islands, is_whole, unwhole
from bothplans.chains import is_joined
from bothplans.questions import classes
from bothplans.stores import Store
from bothplans.telling import tells
from tests import reference
from tests.support import PlanCase, full_store, limit_stores, no_numbers, no_sequences, small_stores, some_questions

SUMS = Store([3, 3], [(0, 2), (1, 1), (2, 0)])
SQUARE = full_store(2, 2)
ONE = Store([2, 3], [(1, 2)])


class IslandsTest(PlanCase):
    def test_examples(self):
        self.same(islands(SQUARE, [0]), (((0, 0), (1, 0)), ((0, 1), (1, 1))))
        self.same(islands(SQUARE, [1, 0]), (((0, 0), (0, 1), (1, 0), (1, 1)),))
        self.same(islands(SQUARE, ()), (((0, 0),), ((0, 1),), ((1, 0),), ((1, 1),)))
        self.same(islands(SUMS, (0, 1)), (((0, 2),), ((1, 1),), ((2, 0),)))
        self.same(islands(lot=[0, 1], store=ONE), (((1, 2),),))
        self.same(unwhole(SUMS), ((0, 1),))

    def test_islands_that_are_reached_in_many_steps(self):
        rows = [(k // 2, (k + 1) // 2) for k in range(14)]
        self.same(islands(Store([8, 8], rows), [0, 1]), (tuple(rows),))
        self.same(islands(Store([8, 8], rows[:5] + rows[6:]), [0, 1]), (tuple(rows[:5]), tuple(rows[6:])))
        falling = sorted((6 - k // 2, (k + 1) // 2) for k in range(13))
        self.same(islands(Store([8, 8], falling), [1, 0]), (tuple(falling),))

    def test_as_defined(self):
        for store in small_stores():
            for lot in reference.lots(store.key_count):
                wanted = reference.islands(store, lot)
                self.same(islands(store, list(lot)[::-1]), wanted)
                numbers = tuple(at for state in store.states for at, island in enumerate(wanted) if state in island)
                self.same(island_question(store, lot), numbers)
                self.same(classes(store, island_question(store, lot)), wanted)

    def test_whole_lots_as_defined(self):
        for store in small_stores():
            lots = reference.lots(store.key_count)
            whole = [lot for lot in lots if reference.is_whole(store, lot)]
            for lot in lots:
                self.same(is_whole(store, list(lot)[::-1]), lot in whole)
            self.same(unwhole(store), tuple(lot for lot in lots if lot not in whole))

    def test_by_name(self):
        self.same(island_question(lot=[1], store=SQUARE), (0, 0, 1, 1))
        self.same(is_whole(lot=(1, 0), store=SUMS), False)
        self.same(is_whole(store=SUMS, lot=[1]), True)
        self.same(unwhole(store=SQUARE), ())

    def test_no_lot(self):
        for function in (islands, island_question, is_whole):
            for value in no_sequences():
                self.refuses(InvalidLot, 0, function, SQUARE, value)
            for number in no_numbers() + [2]:
                self.refuses(InvalidLot, 1, function, SQUARE, [1, number])
            self.refuses(InvalidLot, 2, function, SQUARE, (1, 0, 1))

    def test_facts(self):
        for store in small_stores():
            self.assertEqual(is_joined(store), unwhole(store) == ())
            for lot in reference.lots(store.key_count):
                others = [key for key in range(store.key_count) if key not in lot]
                self.assertEqual(tells(store, island_question(store, lot), others), is_whole(store, lot))
                if len(lot) < 2:
                    self.same(is_whole(store, lot), True)
                for question in some_questions(store):
                    turned = any(reference.turning_pairs(store, question, key) for key in lot)
                    told = reference.answers(store, question)
                    steady = all(len({told[state] for state in island}) == 1 for island in islands(store, lot))
                    self.assertEqual(turned, not steady)

    def test_at_the_limits(self):
        for store in limit_stores():
            unlike = unwhole(store)
            self.same(unlike, tuple(sorted(set(unlike))))
            for lot in reference.lots(8):
                found = islands(store, lot)
                views = {tuple(state[key] for key in range(8) if key not in lot) for state in store.states}
                self.same(lot not in unlike, len(views) == len(found))
            for lot in reference.lots(8)[::75]:
                self.same(is_whole(store, lot), lot not in unlike)
                self.same(islands(store, lot), reference.islands(store, lot))


if __name__ == "__main__":
    unittest.main()
