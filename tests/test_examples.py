"""The examples of the document, section by section, answer by answer."""

import unittest

from bothplans.asking import learned, must_ask, next_ask, shows
from bothplans.budgets import Budget, value_span
from bothplans.budgetsteps import budget_bundles, changes_needed
from bothplans.bundles import finest, is_joined_by, turning_bundles, tyings
from bothplans.chains import chain, is_chain, is_joined, unjoined
from bothplans.commons import adds, common_fault, common_keys, enough_plans, sure_lots, surely_tells
from bothplans.explaining import explained
from bothplans.families import family_store, full_lots, told_keys
from bothplans.further import told_rule, touched, with_rule
from bothplans.halving import turning_change
from bothplans.islands import islands, unwhole
from bothplans.knots import is_knot, is_tying_fault, knot
from bothplans.least import idle_keys, is_least_paper, least_lots, needed_keys, parting_lots
from bothplans.leveled import levels_of, unclosed
from bothplans.levels import Levels, breach, highest, lowest
from bothplans.linear import LinearRules, freedom, obeys
from bothplans.linearbundles import is_least_change, linear_bundles, tying_change
from bothplans.linearplans import is_row_evidence, is_two_plans, two_plans
from bothplans.parts import led_back, parts, view_store
from bothplans.putting import put_together
from bothplans.questions import classes, turning, value_question
from bothplans.rings import level_bundles, ring_chain, ring_rows, rings, sum_turns
from bothplans.sayings import asks_left, sure_answers
from bothplans.slices import broken_slice, is_in_one_piece, slice_of
from bothplans.stores import Store, agreeing, neighbours, view_of
from bothplans.sumlots import sum_lots
from bothplans.sure import sure_classes, sure_way
from bothplans.telling import is_fault, plan_table, tells
from bothplans.told import may_rest_on, spare_keys, sure_keys
from bothplans.torn import are_torn_plans, torn_plans
from bothplans.turnings import rests_on, turning_paper
from bothplans.tyings import tied_chain
from bothplans.weighted import enough_slack, is_cut, two_cut
from tests.support import PlanCase


class ExamplesTest(PlanCase):
    def test_section_3(self):
        sums = Store([3, 3], [(0, 2), (2, 0), (1, 1)])
        self.same((sums.states, agreeing(sums, (0, 2), (2, 0)), neighbours(sums, (1, 1)), value_question(sums, 0)),
                  (((0, 2), (1, 1), (2, 0)), (), (), (0, 1, 2)))
        square = Store([2, 2], [(0, 0), (0, 1), (1, 0), (1, 1)])
        self.same((turning(square, (0, 0, 0, 5)), classes(square, (7, 0, 0, 7)), view_of(square, (1, 0), [1])),
                  ((((0, 1), (1, 1)), ((1, 0), (1, 1))), (((0, 0), (1, 1)), ((0, 1), (1, 0))), (0,)))

    def test_section_4(self):
        sums = Store([3, 3], [(0, 2), (1, 1), (2, 0)])
        self.same((least_lots(sums, (0, 1, 2)), needed_keys(sums, (0, 1, 2)), parting_lots(sums, (0, 1, 2)),
                   full_lots(sums), told_keys(sums, [1])),
                  (((0,), (1,)), (), ((0, 1),), ((0,), (1,)), (0, 1)))
        square = Store([2, 2], [(0, 0), (0, 1), (1, 0), (1, 1)])
        self.same((least_lots(square, (0, 0, 0, 5)), plan_table(square, (7, 7, 4, 4), [0]),
                   tells(square, (0, 0, 0, 5), [0]), idle_keys(square, (7, 7, 4, 4))),
                  (((0, 1),), (((0,), 7), ((1,), 4)), False, (1,)))
        self.same((is_least_paper(square, (7, 7, 4, 4), [0], (((0, 1), (1, 0)),)),
                   is_fault(square, (0, 0, 0, 5), [0], ((1, 0), (1, 1)))),
                  (True, True))
        store, question = family_store(3, [[0], [2, 1]])
        self.same((store.states, question, least_lots(store, question)),
                  (((0, 0, 0), (1, 0, 1), (1, 1, 0)), (0, 1, 1), ((0,), (1, 2))))

    def test_section_5(self):
        sums = Store([3, 3], [(0, 2), (1, 1), (2, 0)])
        square = Store([2, 2], [(0, 0), (0, 1), (1, 0), (1, 1)])
        self.same((is_joined(sums), unjoined(sums), is_joined(square), chain(square, (0, 0), (0, 1)), unwhole(sums)),
                  (False, ((0, 2), (1, 1)), True, ((0, 0), (0, 1)), ((0, 1),)))
        self.same((are_torn_plans(sums, ((0, 2), (2, 0), (0,), (1,), (5, 6, 7))), torn_plans(square),
                   is_chain(square, (0, 0), (1, 1), ((0, 0), (0, 1), (1, 1)))),
                  (True, None, True))
        self.same((rests_on(square, (3, 3, 4, 4)), turning_paper(square, (3, 3, 4, 4)),
                   turning_paper(sums, (0, 1, 1)), islands(square, [0])),
                  ((0,), (((0, 0), (1, 0)),), (), (((0, 0), (1, 0)), ((0, 1), (1, 1)))))

    def test_section_6(self):
        some = Store([2, 2, 2], [(0, 0, 0), (1, 1, 0), (1, 1, 1), (1, 0, 1)])
        self.same((finest(some), is_joined_by(some, [[0, 1], [2]]),
                   tied_chain(some, [(0, 1), (2,)], (0, 0, 0), (1, 1, 1))),
                  (((0, 1, 2),), False, ((0, 0, 0), (1, 1, 0), (1, 1, 1))))
        self.same((is_knot(some, 0, 2, ((0, 0, 0), (1, 0, 1))), knot(some, 1, 2),
                   is_tying_fault(some, [[0, 1], [2]], ((0, 1), (1, 2), (0, 5, 7, 7)))),
                  (True, None, True))
        pairs = Store([2, 2, 2], [(0, 0, 0), (0, 0, 1), (1, 1, 0), (1, 1, 1)])
        self.same((finest(pairs), tyings(pairs), turning_bundles(pairs, finest(pairs), (3, 3, 4, 4))),
                  (((0, 1), (2,)), (((0, 1), (2,)), ((0, 1, 2),)), ((0, 1),)))

    def test_section_7(self):
        some = Store([3, 2], [(0, 0), (2, 0), (2, 1), (1, 1)])
        self.same((slice_of(some, [0], (2,)).states, broken_slice(some), view_store(some, [0]).states,
                   is_in_one_piece(Store([2, 2], [(0, 0), (1, 1)]))),
                  (((0,), (1,)), None, ((0,), (1,), (2,)), False))
        other = put_together(some, Store([3, 2], [(0, 0), (1, 0)]), [(0, 0)])
        self.same((other.states, broken_slice(other), parts(other), led_back(some, [1], (5, 7))),
                  (((0, 0, 0), (1, 1, 0)), ((), ()), ((0, 1), (2,)), (5, 7, 5, 7)))

    def test_section_8(self):
        sums = LinearRules(3, 4, [(2, 2, 2, 0, 1), [1, 1, 1, 0, 2]])
        self.same((sums.rules, freedom(sums), obeys(sums, (0, 1, 1, 2)), linear_bundles(sums), tying_change(sums, 0, 3),
                   is_least_change(sums, (0, 1, 2, 0))),
                  (((1, 1, 1, 0, 2),), 3, True, ((0, 1, 2), (3,)), None, True))
        self.same((touched(sums, [0, 1, 0, 1, 0]), linear_bundles(with_rule(sums, [0, 1, 0, 1, 0])),
                   linear_bundles(with_rule(sums, [1, 0, 0, 0, 1])), told_rule(sums, [2, 2, 2, 0, 0])),
                  (((0, 1, 2), (3,)), ((0, 1, 2, 3),), ((0,), (1, 2), (3,)), False))
        self.same((is_row_evidence(sums, [2, 0, 0, 0], [1, 2], ("rule", (2, 2, 2, 0, 1))),
                   is_two_plans(sums, (0, (1, 2), (1, 2, 0, 0))), two_plans(LinearRules(7, 2, []))),
                  (True, True, None))

    def test_section_9(self):
        some = Levels([3, 3, 2], [(0, 1, 1, 1), (1, 1, 0, 1), (2, 1, 0, 2)])
        self.same((lowest(some, (0, 0, 1)), highest(some, (0, 2, 1)), breach(some, (1, 2, 2, 1)), breach(some, (2, 1, 1, 1))),
                  ((2, 1, 1), (0, 0, 0), (1, 2, 0), None))
        self.same((rings(some), ring_rows(some, (1, 1)), level_bundles(some)),
                  ((((0, 1), (1, 1)), ((0, 2),), ((1, 2),), ((2, 1),)), ((0, 0, 0), (1, 1, 0)), ((0, 1), (2,))))
        self.same((len(ring_chain(some, (1, 2, 0), (2, 1, 1))), sum_turns(some, [[0, 1, 1], [0, -1, -1], [7, 7]])),
                  (4, ()))
        self.same((unclosed(Store([2, 2], [(0, 1), (1, 0)])), levels_of(Store([3], [[2], [0]])) == Levels([3], [[0, 1, 0, 2]])),
                  (((0, 1), (1, 0)), True))

    def test_section_10(self):
        tight, loose = Budget((2, 3, 1), 4, 4), Budget((2, 3, 1), 4, 5)
        self.same((budget_bundles(tight), budget_bundles(loose), value_span(tight, 1)),
                  (((0, 1, 2),), ((0,), (1,), (2,)), (1, 3)))
        self.same((sum_lots(tight, (5, 5, 0)), sum_lots(loose, (5, 5, 0)), changes_needed(loose, (0, 3, 1), (2, 1, 1))),
                  (((0, 1), (2,)), ((0, 1),), 4))
        self.same((enough_slack((4, 4), (2, 3)), is_cut((4, 4), (2, 3), 6, 9, ((1, 2), (3, 0))),
                   two_cut((4, 4), (2, 3), 6, 10)),
                  (4, True, None))

    def test_section_11(self):
        square = Store([2, 2], [(0, 0), (0, 1), (1, 0), (1, 1)])
        some = [((0, 0), 4), ((1, 0), 5), ((0, 1), 4)]
        self.same((sure_keys(square, some), spare_keys(square, some), may_rest_on(square, some, [0]), next_ask(square, some)),
                  ((0,), (), True, (1, 1)))
        self.same((learned(square, lambda state: state[0] * state[1]), must_ask(square, (7, 7, 4, 4))),
                  (((0, 1), (((0, 0), 0), ((0, 1), 0), ((1, 0), 0), ((1, 1), 1))), ((0, 0), (0, 1), (1, 0), (1, 1))))
        self.same((turning_change(square, lambda state: state[0] + state[1], (0, 0), (0, 1)),
                   shows(square, (0, 0, 0, 5), [(1, 1), (1, 0), (0, 1)])),
                  (((0, 0), (0, 1)), True))
        self.same(explained(square, lambda state: state[1], [(0, 0), (1, 0), (0, 1)]),
                  ((1,), (((0, 0), 0), ((1, 0), 0), ((0, 1), 1))))

    def test_section_12(self):
        sums, square = Store([3, 3], [(0, 2), (1, 1), (2, 0)]), Store([2, 2], [(0, 0), (0, 1), (1, 0), (1, 1)])
        self.same((sure_classes(sums, [(0,), (1,)]), common_fault(sums, [(0,), (1,)]), sure_lots(sums, [(0,), (1,)]),
                   common_keys(sums, [])),
                  ((((0, 2),), ((1, 1),), ((2, 0),)), ((0, 2), (1, 1)), ((0,), (1,)), (0, 1)))
        self.same((sure_way(square, [(0,), (1,)], (0, 0), (0, 1)), common_fault(square, [(0,), (1,)]),
                   adds(square, [(0,)], (0, 1)), enough_plans(square, [(0, 1), (1,)])),
                  (((0, 0), (0, 1)), None, False, (1,)))
        self.same((sure_answers(square, [(0,)], [((1, 1), 7)]), asks_left(square, [(0,)], [((1, 1), 7)]),
                   surely_tells(sums, [(0,), (1,)], ())),
                  ((None, None, 7, 7), ((0, 0),), False))


if __name__ == "__main__":
    unittest.main()
