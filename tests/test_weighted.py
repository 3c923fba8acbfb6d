"""Point [38]: weights, cuts and slack."""

import itertools
import random
import unittest

from bothplans.residues import first_multiple
from bothplans.stores import Store
from bothplans.weighted import enough_slack, is_cut, slack_cut, two_cut
from tests import reference
from tests.support import PlanCase, as_lists, no_entries, no_numbers

LARGE = 10 ** 30 - 1


def weigh(weights, row):
    return sum(map(int.__mul__, weights, row))


def allowed(caps, weights, low, high):
    rows = itertools.product(*[range(cap + 1) for cap in caps])
    return [row for row in rows if low <= weigh(weights, row) <= high]


def are_joined(caps, weights, low, high):
    rows = allowed(caps, weights, low, high)
    return not rows or reference.unjoined(Store([cap + 1 for cap in caps], rows)) is None


def is_cut_in_words(weights, low, high, one, other):
    apart = reference.apart(one, other)
    if len(apart) != 2:
        return False
    ways = [(i, j) for i, j in itertools.permutations(apart) if other[i] > one[i] and other[j] < one[j]]
    return any(weigh(weights, one) + weights[i] > high and weigh(weights, one) - weights[j] < low for i, j in ways)


def has_cut(caps, weights, low, high):
    """Whether there is a cut of two keys, the first of which has few values, however many the second one has."""
    def second_values(first, least, most):
        """The least and the greatest value of the second key with which the weight is from least to most."""
        from_, to = -((weights[0] * first - least) // weights[1]), (most - weights[0] * first) // weights[1]
        return max(0, from_), min(caps[1], to)

    spans = [second_values(first, low, high) for first in range(caps[0] + 1)]
    for first in range(caps[0] + 1):
        # Neither up with the first key, nor down with the second one.
        stuck = second_values(first, max(low, high - weights[0] + 1), min(high, low + weights[1] - 1))
        if stuck[0] <= stuck[1] and any(least <= most and least < stuck[1] for least, most in spans[first + 1:]):
            return True
    return False


class IsCutTest(PlanCase):
    def test_example(self):
        self.same(is_cut((4, 4), (2, 3), 6, 9, ((1, 2), (3, 0))), True)
        self.same(is_cut(value=((1, 2), (3, 0)), high=9, low=6, weights=[2, 3], caps=[4, 4]), True)
        self.same(is_cut((4, 4), (2, 3), 6, 10, ((1, 2), (3, 0))), False)
        self.same(is_cut((4, 4), (2, 3), 5, 9, ((1, 2), (3, 0))), False)

    def test_all_pairs_of_rows(self):
        for caps, weights in (((2, 2), (1, 2)), ((3, 1), (3, 2)), ((1, 2, 1), (2, 1, 3)), ((2, 0, 2), (2, 5, 2))):
            rows = list(itertools.product(*[range(cap + 2) for cap in caps]))
            for low, high in itertools.combinations_with_replacement(range(0, 9, 2), 2):
                right = allowed(caps, weights, low, high)
                for one, other in itertools.product(rows, repeat=2):
                    wanted = one in right and other in right and is_cut_in_words(weights, low, high, one, other)
                    self.same(is_cut(list(caps), weights, low, high, (one, other)), wanted)

    def test_values_that_are_none(self):
        for value in no_entries() + [
            as_lists(((1, 2), (3, 0))), [(1, 2), (3, 0)], ((1, 2), [3, 0]), ([1, 2], (3, 0)), ((1, 2),), ((1, 2), (3, 0), (3, 0)),
            ((1, 2), (3, 0, 0)), ((1,), (3,)), ((True, 2), (3, 0)), ((1, 2), (3, False)), ((1, 2.0), (3, 0)), ((1, 2), (3, None)),
            ((1, 2), (5, 0)), ((1, 2), (3, -1)), ((3, 0), (1, 2)), ((1, 2), (1, 2)), ((1, 2), (0, 3)), ((1, 2), (1, 3)),
        ]:
            self.same(is_cut((4, 4), (2, 3), 6, 9, value), False)
        for entry in no_entries():
            self.same(is_cut((4, 4), (2, 3), 6, 9, (entry, (3, 0))), False)
            self.same(is_cut((4, 4), (2, 3), 6, 9, ((1, 2), entry)), False)
        for number in no_numbers():
            self.same(is_cut((4, 4), (2, 3), 6, 9, ((1, 2), (3, number))), False)
            self.same(is_cut((4, 4), (2, 3), 6, 9, ((number, 2), (3, 0))), False)

    def test_at_the_limits(self):
        caps, weights = [LARGE] * 12, [LARGE] * 12
        one, other = (1,) + (0,) * 11, (0,) * 11 + (1,)
        self.same(is_cut(caps, weights, 1, LARGE, (one, other)), True)
        self.same(is_cut(caps, weights, 0, LARGE, (one, other)), False)
        self.same(is_cut(caps, weights, LARGE, LARGE, (one, (0, 1) + (0,) * 10)), True)
        self.same(is_cut(caps, weights, LARGE, LARGE, (one, (0, 2) + (0,) * 10)), False)


class TwoCutTest(PlanCase):
    def test_examples(self):
        self.same(two_cut((4, 4), (2, 3), 6, 10), None)
        self.same(is_cut((4, 4), (2, 3), 6, 9, two_cut(high=9, low=6, weights=[2, 3], caps=[4, 4])), True)

    def test_small_ones(self):
        for caps in ((0, 0), (0, 3), (1, 1), (2, 1), (2, 3), (4, 4), (5, 2)):
            for weights in ((1, 1), (1, 2), (2, 1), (2, 3), (4, 2), (5, 3), (3, 7)):
                top = weigh(weights, caps)
                for low, slack in itertools.product(range(0, top + 3, 2 if top > 12 else 1), (0, 1, 2, 3, 4, 6, 8, 40)):
                    cut = two_cut(list(caps), list(weights), low, low + slack)
                    self.assertEqual(cut is None, are_joined(caps, weights, low, low + slack))
                    if cut is not None:
                        self.same(is_cut(caps, weights, low, low + slack, cut), True)
                        self.assertTrue(is_cut_in_words(weights, low, low + slack, *cut))

    def test_no_tuple_and_just_one(self):
        self.same(two_cut((2, 2), (4, 6), 1, 3), None)
        self.same(two_cut((2, 2), (4, 6), 21, 99), None)
        self.same(two_cut((2, 2), (4, 6), 20, 20), None)
        self.same(two_cut((2, 2), (4, 6), 0, 0), None)
        self.same(two_cut((9, 9), (4, 6), 10, 10), None)
        self.same(two_cut((9, 0), (4, 6), 0, 99), None)
        self.same(two_cut((0, 9), (4, 6), 12, 12), None)

    def test_large_numbers_for_the_second_key(self):
        chance = random.Random(38)
        told = set()
        for _ in range(1500):
            heavy = chance.choice((7, 10 ** 9, LARGE))
            weights = chance.randrange(1, heavy), chance.randrange(1, heavy)
            caps = chance.randrange(60), chance.choice((3, chance.randrange(LARGE), LARGE))
            low = chance.choice((chance.randrange(weigh(weights, caps) + 1), weights[1] * chance.randrange(caps[1] + 1)))
            slack = chance.choice((0, 1, chance.randrange(sum(weights)), sum(weights) - 2, sum(weights) - 1,
                                   sum(weights) // 50))
            cut = two_cut(caps, weights, low, low + slack)
            told.add(cut is None)
            self.assertEqual(cut is not None, has_cut(caps, weights, low, low + slack))
            if cut is not None:
                self.same(is_cut(caps, weights, low, low + slack, cut), True)
            # The keys may be told the other way round.
            turned = two_cut(caps[::-1], weights[::-1], low, low + slack)
            self.assertEqual(turned is None, cut is None)
            if turned is not None:
                self.same(is_cut(caps[::-1], weights[::-1], low, low + slack, turned), True)
        self.assertEqual(told, {True, False})

    def test_large_numbers_for_both_keys(self):
        chance = random.Random(39)
        for _ in range(300):
            weights = chance.randrange(1, LARGE), chance.randrange(1, LARGE)
            caps = chance.randrange(1, LARGE), chance.randrange(1, LARGE)
            low = chance.randrange(LARGE)
            self.same(two_cut(caps, weights, low, low + sum(weights) - 1), None)
            self.same(two_cut(caps, weights, 1, sum(weights)), None)
            self.same(is_cut(caps, weights, 1, sum(weights) - 1, two_cut(caps, weights, 1, sum(weights) - 1)), True)
            # With one sum alone, of two tuples each one is cut off from the other one; they exist as far as caps allow.
            first, second = chance.randrange(caps[0] + 1), chance.randrange(caps[1] + 1)
            total = weigh(weights, (first, second))
            cut = two_cut([LARGE, LARGE], weights, total, total)
            if cut is not None:
                self.same(is_cut([LARGE, LARGE], weights, total, total, cut), True)
        self.same(two_cut([LARGE] * 2, [LARGE, LARGE - 1], LARGE, LARGE), None)
        weights = LARGE, LARGE - 1
        total = weigh(weights, (LARGE - 1, 0))
        self.same(is_cut([LARGE] * 2, weights, total, total, two_cut([LARGE] * 2, weights, total, total)), True)
        self.same(two_cut([LARGE, LARGE - 1], weights, total, total), None)

    def test_the_first_multiple(self):
        for divisor in range(1, 14):
            for step, low in itertools.product(range(20), range(divisor)):
                for high in range(low, divisor):
                    right = [number for number in range(divisor) if low <= number * step % divisor <= high]
                    self.same(first_multiple(step, divisor, low, high), min(right, default=None))


class SlackTest(PlanCase):
    def test_examples(self):
        self.same(enough_slack((4, 4), (2, 3)), 4)
        self.same(enough_slack(weights=[2, 3], caps=[4, 4]), 4)
        self.same(enough_slack((0, 4), (2, 3)), 0)
        self.same(enough_slack([0], [9]), 0)
        self.same(enough_slack([3, 0, 1, 1], [2, 9, 1, 2]), 3)
        self.same(slack_cut([3], (7,)), None)
        self.same(slack_cut([0, 4, 0], (7, 7, 7)), None)
        self.same(enough_slack([1, 1], [1, 1]), 1)

    def test_the_least_number(self):
        for caps, weights in (
            ((1, 1), (1, 1)), ((2, 1), (2, 3)), ((1, 1), (5, 2)), ((3, 0), (2, 4)), ((1, 0, 2), (3, 9, 2)), ((1, 1, 1), (1, 2, 4)),
            ((2, 1, 1), (1, 3, 2)), ((1, 2, 1), (2, 2, 2)), ((0, 0), (3, 3)), ((4,), (3,)), ((1, 1, 1, 1), (3, 1, 2, 1)),
        ):
            top = weigh(weights, caps) + 2
            worst = [high - low for low, high in itertools.combinations_with_replacement(range(top), 2)
                     if not are_joined(caps, weights, low, high)]
            self.same(enough_slack(caps, weights), max(worst, default=-1) + 1)

    def test_cuts_just_below(self):
        chance = random.Random(3)
        for count in (1, 2, 3, 5, 12):
            for _ in range(20):
                caps = [chance.choice((0, 1, 2, LARGE)) for _ in range(count)]
                weights = [chance.choice((1, 2, 7, chance.randrange(1, LARGE), LARGE)) for _ in range(count)]
                used = sorted(weight for weight, cap in zip(weights, caps) if cap)
                enough = enough_slack(caps, weights)
                self.same(enough, used[-1] + used[-2] - 1 if len(used) > 1 else 0)
                told = slack_cut(tuple(caps), tuple(weights))
                if enough == 0:
                    self.same(told, None)
                else:
                    self.assertEqual((type(told), len(told)), (tuple, 3))
                    low, one, other = told
                    self.assertTrue(type(low) is int and low >= 0)
                    self.same(is_cut(caps, weights, low, low + enough - 1, (one, other)), True)
                    self.assertTrue(is_cut_in_words(weights, low, low + enough - 1, one, other))

    def test_by_name(self):
        low, one, other = slack_cut(weights=[2, 3], caps=[4, 4])
        self.same(is_cut([4, 4], [2, 3], low, low + 3, (one, other)), True)


class CutsTest(PlanCase):
    def test_with_a_cut_they_are_not_joined(self):
        for caps, weights in (((1, 1, 1), (1, 2, 3)), ((2, 1, 1), (2, 2, 1))):
            for low, high in itertools.combinations_with_replacement(range(weigh(weights, caps) + 1), 2):
                rows = allowed(caps, weights, low, high)
                cuts = [pair for pair in itertools.permutations(rows, 2) if is_cut(caps, weights, low, high, pair)]
                if cuts:
                    self.assertFalse(are_joined(caps, weights, low, high))


if __name__ == "__main__":
    unittest.main()
