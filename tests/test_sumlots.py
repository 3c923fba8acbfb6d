"""Point [37]: sum questions to budgets."""

import itertools
import random
import unittest

from bothplans.budgets import Budget, budget_state, budget_store, value_span
from bothplans.errors import InvalidLot, InvalidQuestion
from bothplans.sumlots import sum_clash, sum_lots
from tests import reference
from tests.support import PlanCase, Unfriendly, no_numbers, no_sequences
from tests.systems import small_budgets

TIGHT, LOOSE = Budget((2, 3, 1), 4, 4), Budget((2, 3, 1), 4, 5)
LARGE = 10 ** 30 - 1


def weigh(factors, row):
    return sum(map(int.__mul__, factors, row))


def some_factors(chance, count):
    yield (0,) * count
    yield (5,) * count
    yield (-3,) * count
    yield tuple(range(-1, count - 1))
    yield tuple(chance.choice((-2, 0, 0, 5)) for _ in range(count))
    yield tuple(chance.choice((-1, 7)) for _ in range(count))


class SumsTest(PlanCase):
    def check_clash(self, budget, factors, lot, clash):
        self.assertIs(type(clash), tuple)
        one, other = clash
        self.same((budget_state(budget, one), budget_state(budget, other)), clash)
        self.assertTrue(reference.agree(one, other, lot))
        self.assertNotEqual(weigh(factors, one), weigh(factors, other))

    def test_by_definition(self):
        chance = random.Random(37)
        for budget, rows in small_budgets():
            if len(rows) > 60 or (budget.key_count > 3 and (budget.low + budget.high) % 3):
                continue
            store = budget_store(budget)
            for factors in some_factors(chance, budget.key_count):
                question = [weigh(factors, row) for row in store.states]
                self.same(sum_lots(budget, factors), reference.least_lots(store, question))
                for lot in reference.lots(budget.key_count):
                    clash = sum_clash(budget, list(factors), list(lot)[::-1])
                    if reference.tells(store, question, lot):
                        self.same(clash, None)
                    else:
                        self.check_clash(budget, factors, lot, clash)

    def test_examples(self):
        self.same(sum_lots(TIGHT, (5, 5, 0)), ((0, 1), (2,)))
        self.same(sum_lots(factors=[5, 5, 0], budget=LOOSE), ((0, 1),))
        self.same(sum_clash(lot=[2], factors=[5, 5, 0], budget=TIGHT), None)
        self.check_clash(TIGHT, (5, 5, 0), (0,), sum_clash(TIGHT, (5, 5, 0), (0,)))

    def test_the_empty_lot_and_the_lot_of_all_keys(self):
        for budget in (TIGHT, LOOSE):
            self.same(sum_clash(budget, [1, -2, 7], [2, 0, 1]), None)
            self.check_clash(budget, [1, -2, 7], (), sum_clash(budget, [1, -2, 7], ()))
            self.same(sum_clash(budget, (0, 0, 0), ()), None)
        self.same(sum_clash(TIGHT, (-4, -4, -4), []), None)
        self.check_clash(LOOSE, (-4, -4, -4), (), sum_clash(LOOSE, (-4, -4, -4), []))

    def test_few_free_keys(self):
        self.same(sum_lots(Budget([2, 0], 2, 2), (7, 8)), ((),))
        self.same(sum_lots(Budget([2, 0], 1, 2), (7, 8)), ((0,),))
        self.same(sum_lots(Budget([2, 0], 1, 2), (0, 8)), ((),))
        self.same(sum_lots(Budget([3, 0, 3], 2, 2), (7, 8, 7)), ((),))
        self.same(sum_lots(Budget([3, 0, 3], 2, 2), (7, 8, -7)), ((0,), (2,)))
        self.same(sum_clash(Budget([2, 0], 2, 2), (7, 8), ()), None)

    def test_what_is_no_sum_question(self):
        wrong = no_sequences() + [(), (1, 2), (1, 2, 3, 4), (1, 2, True), (False, 1, 2), (1, 2.0, 3), ("1", 2, 3), (1, None, 3),
                                  (1, (2,), 3), [1, 2, Unfriendly()], [Unfriendly()] * 3]
        for value in wrong:
            self.refuses(InvalidQuestion, 0, sum_lots, TIGHT, value)
            self.refuses(InvalidQuestion, 0, sum_clash, TIGHT, value, None)
            self.refuses(InvalidQuestion, 0, sum_clash, LOOSE, value, [0])
        for number in no_numbers():
            if type(number) is not int:
                self.refuses(InvalidQuestion, 0, sum_lots, TIGHT, (1, number, 2))

    def test_what_is_no_lot(self):
        for value in no_sequences():
            self.refuses(InvalidLot, 0, sum_clash, TIGHT, (1, 2, 3), value)
        for entry in no_numbers() + [3, 10 ** 30, 1]:
            self.refuses(InvalidLot, 1, sum_clash, LOOSE, (1, 2, 3), [1, entry, 7])
        self.refuses(InvalidLot, 2, sum_clash, LOOSE, (1, 2, 3), (0, 2, 0))

    def test_at_the_limits(self):
        chance = random.Random(12)
        for spread in (0, 1, LARGE // 2):
            for _ in range(25):
                caps = [chance.choice((0, 1, chance.randrange(LARGE), LARGE)) for _ in range(12)]
                low = min(chance.choice((0, 5, LARGE, sum(caps) // 2)), sum(caps))
                budget = Budget(caps, low, low + spread)
                factors = [chance.choice((0, 1, -LARGE, LARGE, chance.randrange(-9, 9))) for _ in range(12)]
                free = [key for key in range(12) if len(set(value_span(budget, key))) == 2]
                if budget.low < budget.high:
                    wanted = [[key for key in free if factors[key] != 0]]
                else:
                    wanted = [[key for key in free if factors[key] != factor] for factor in {factors[key] for key in free}]
                lots = sum_lots(budget, factors)
                self.same(lots, tuple(sorted(map(tuple, wanted or [()]))))
                for lot in lots:
                    self.same(sum_clash(budget, factors, lot), None)
                    self.same(sum_clash(budget, factors, sorted(set(lot) | {11, 3})), None)
                    for key in lot:
                        less = [left for left in lot if left != key]
                        self.check_clash(budget, factors, less, sum_clash(budget, factors, less))

    def test_one_least_lot_for_each_factor(self):
        for caps, low in itertools.product(([3, 3, 3], [1, 2, 5]), (2, 3)):
            self.same(sum_lots(Budget(caps, low, low), (4, -4, 4)), ((0, 2), (1,)))
            self.same(sum_lots(Budget(caps, low, low), (1, 2, 3)), ((0, 1), (0, 2), (1, 2)))
            self.same(sum_lots(Budget(caps, low, low + 1), (1, 2, 3)), ((0, 1, 2),))


if __name__ == "__main__":
    unittest.main()
