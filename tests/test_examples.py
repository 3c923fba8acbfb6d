"""The examples of sections 3, 4, 5 and 6 of the document, answer by answer."""

import unittest

from bothplans.chains import chain, is_chain, is_joined, unjoined
from bothplans.families import family_store, full_lots, told_keys
from bothplans.islands import islands, unwhole
from bothplans.least import idle_keys, is_least_paper, least_lots, needed_keys, parting_lots
from bothplans.questions import classes, turning, value_question
from bothplans.stores import Store, agreeing, neighbours, view_of
from bothplans.telling import is_fault, plan_table, tells
from bothplans.torn import are_torn_plans, torn_plans
from bothplans.turnings import rests_on, turning_paper
from bothplans.tyings import tied_chain
from tests.support import PlanCase


class ExamplesTest(PlanCase):
    def test_section_3(self):
        sums = Store([3, 3], [(0, 2), (2, 0), (1, 1)])
        self.same((sums.states, agreeing(sums, (0, 2), (2, 0)), neighbours(sums, (1, 1)), value_question(sums, 0)),
                  (((0, 2), (1, 1), (2, 0)), (), (), (0, 1, 2)))
        square = Store([2, 2], [(0, 0), (0, 1), (1, 0), (1, 1)])
        self.same((turning(square, (0, 0, 0, 5)), classes(square, (7, 0, 0, 7)), view_of(square, (1, 0), [1])),
                  ((((0, 1), (1, 1)), ((1, 0), (1, 1))), (((0, 0), (1, 1)), ((0, 1), (1, 0))), (0,)))

    def test_section_4(self):
        sums = Store([3, 3], [(0, 2), (1, 1), (2, 0)])
        self.same((least_lots(sums, (0, 1, 2)), needed_keys(sums, (0, 1, 2)), parting_lots(sums, (0, 1, 2)),
                   full_lots(sums), told_keys(sums, [1])),
                  (((0,), (1,)), (), ((0, 1),), ((0,), (1,)), (0, 1)))
        square = Store([2, 2], [(0, 0), (0, 1), (1, 0), (1, 1)])
        self.same((least_lots(square, (0, 0, 0, 5)), plan_table(square, (7, 7, 4, 4), [0]),
                   tells(square, (0, 0, 0, 5), [0]), idle_keys(square, (7, 7, 4, 4))),
                  (((0, 1),), (((0,), 7), ((1,), 4)), False, (1,)))
        self.same((is_least_paper(square, (7, 7, 4, 4), [0], (((0, 1), (1, 0)),)),
                   is_fault(square, (0, 0, 0, 5), [0], ((1, 0), (1, 1)))),
                  (True, True))
        store, question = family_store(3, [[0], [2, 1]])
        self.same((store.states, question, least_lots(store, question)),
                  (((0, 0, 0), (1, 0, 1), (1, 1, 0)), (0, 1, 1), ((0,), (1, 2))))

    def test_section_5(self):
        sums = Store([3, 3], [(0, 2), (1, 1), (2, 0)])
        square = Store([2, 2], [(0, 0), (0, 1), (1, 0), (1, 1)])
        self.same((is_joined(sums), unjoined(sums), is_joined(square), chain(square, (0, 0), (0, 1)), unwhole(sums)),
                  (False, ((0, 2), (1, 1)), True, ((0, 0), (0, 1)), ((0, 1),)))
        self.same((are_torn_plans(sums, ((0, 2), (2, 0), (0,), (1,), (5, 6, 7))), torn_plans(square),
                   is_chain(square, (0, 0), (1, 1), ((0, 0), (0, 1), (1, 1)))),
                  (True, None, True))
        self.same((rests_on(square, (3, 3, 4, 4)), turning_paper(square, (3, 3, 4, 4)),
                   turning_paper(sums, (0, 1, 1)), islands(square, [0])),
                  ((0,), (((0, 0), (1, 0)),), (), (((0, 0), (1, 0)), ((0, 1), (1, 1)))))

    def test_section_6(self):
        some = Store([2, 2, 2], [(0, 0, 0), (1, 1, 0), (1, 1, 1), (1, 0, 1)])
        self.same(tied_chain(some, [(0, 1), (2,)], (0, 0, 0), (1, 1, 1)), ((0, 0, 0), (1, 1, 0), (1, 1, 1)))


if __name__ == "__main__":
    unittest.main()
