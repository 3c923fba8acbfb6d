"""Point [29]: further rules, touched bundles, tying rules."""

import itertools
import random
import unittest

from bothplans.errors import InvalidLot, InvalidStore, Refused
from bothplans.further import told_rule, touched, tying_rule, with_rule
from bothplans.linear import LinearRules
from bothplans.linearbundles import linear_bundles
from tests import reference
from tests.support import PlanCase, Unfriendly, as_lists, no_entries, no_sequences
from tests.systems import large_systems, small_systems

SUMS = LinearRules(3, 4, [(2, 2, 2, 0, 1), [1, 1, 1, 0, 2]])
FIXED = LinearRules(5, 3, [(1, 0, 0, 4), (0, 1, 2, 0)])


def told(prime, states, rule):
    obeying = {sum(value * factor for value, factor in zip(state, rule)) % prime == rule[-1] for state in states}
    return obeying.pop() if len(obeying) == 1 else None


def touched_bundles(system, states, rule):
    sums = {bundle: {sum(state[key] * rule[key] for key in bundle) % system.prime for state in states}
            for bundle in linear_bundles(system)}
    return tuple(bundle for bundle, found in sums.items() if len(found) > 1)


def some_cases():
    """Linear rules, their states, and a further rule."""
    chance = random.Random(29)
    for rules, system in small_systems():
        states = reference.obeying(system.prime, system.key_count, rules)
        if len(states) <= 130:
            further = [tuple(chance.randrange(system.prime) for _ in range(system.key_count + 1)) for _ in range(6)]
            further += [tuple(chance.randrange(2) * number for number in rule) for rule in further[:3]]
            for rule in further + list(system.rules) + [rule[:-1] + ((rule[-1] + 1) % system.prime,) for rule in system.rules]:
                yield system, states, rule


class FurtherTest(PlanCase):
    def test_examples(self):
        self.same(touched(SUMS, [0, 1, 0, 1, 0]), ((0, 1, 2), (3,)))
        self.same(linear_bundles(with_rule(SUMS, [0, 1, 0, 1, 0])), ((0, 1, 2, 3),))
        self.same(linear_bundles(with_rule(SUMS, [1, 0, 0, 0, 1])), ((0,), (1, 2), (3,)))
        self.same(told_rule(SUMS, [2, 2, 2, 0, 0]), False)
        self.same(told_rule(further=(2, 2, 2, 0, 1), system=SUMS), True)
        self.assertIsNone(told_rule(SUMS, (0, 0, 0, 1, 1)))
        self.same(told_rule(SUMS, (0,) * 5), True)
        self.same(told_rule(SUMS, (0, 0, 0, 0, 2)), False)
        self.same(touched(further=(1, 1, 1, 2, 0), system=SUMS), ((3,),))
        self.assertEqual(with_rule(further=[2, 2, 2, 0, 1], system=SUMS), SUMS)

    def test_what_it_tells(self):
        for system, states, rule in some_cases():
            wanted = told(system.prime, states, rule)
            self.same(told_rule(system, list(rule)), wanted)
            if wanted is False:
                self.refuses(Refused, 0, with_rule, system, rule)
            else:
                made = with_rule(system, rule)
                self.assertIs(type(made), LinearRules)
                self.assertEqual(reference.obeying(system.prime, system.key_count, made.rules),
                                 [state for state in states if told(system.prime, [state], rule)])

    def test_touched(self):
        for system, states, rule in some_cases():
            found = touched(system, as_lists(rule))
            self.same(found, touched_bundles(system, states, rule))
            self.assertEqual(found == (), told_rule(system, rule) is not None)

    def test_what_it_makes_of_the_bundles(self):
        for system, states, rule in some_cases():
            met = touched(system, rule)
            if told_rule(system, rule) is not None:
                continue
            before, after = set(linear_bundles(system)), set(linear_bundles(with_rule(system, rule)))
            self.assertLessEqual(before - set(met), after)
            if len(met) > 1:
                self.assertEqual(after - before, {tuple(sorted(sum(met, ())))})

    def test_no_further_rule(self):
        wrong = no_entries() + [(), (0,) * 4, (0,) * 6, (0, 0, 0, 0, 3), (3, 0, 0, 0, 0), (0, 0, -1, 0, 0), (True, 0, 0, 0, 0),
                                (0, 0, 0, 0, False), (0, 0.0, 0, 0, 0), (0, None, 0, 0, 0), [0, 0, 0, 0, Unfriendly()]]
        for function in (told_rule, with_rule, touched):
            for value in wrong:
                self.refuses(InvalidStore, 0, function, SUMS, value)

    def test_what_is_passed_is_neither_changed_nor_kept(self):
        rule = [0, 1, 0, 1, 0]
        made = with_rule(SUMS, rule)
        rules = made.rules
        self.assertEqual(rule, [0, 1, 0, 1, 0])
        rule.clear()
        self.same(made.rules, rules)
        self.same(SUMS.rules, ((1, 1, 1, 0, 2),))

    def test_at_the_limits(self):
        chance = random.Random(92)
        for system in large_systems():
            for _ in range(6):
                rule = [chance.randrange(13) * chance.randrange(2) for _ in range(13)]
                found = touched(system, rule)
                self.assertEqual(found == (), told_rule(system, rule) is not None)
                if len(found) > 1:
                    after = linear_bundles(with_rule(system, rule))
                    self.assertIn(tuple(sorted(sum(found, ()))), after)


class TyingRuleTest(PlanCase):
    def check(self, system, lot):
        met = tuple(bundle for bundle in linear_bundles(system) if set(bundle) & set(lot))
        found = tying_rule(system, lot)
        fixed = [bundle for bundle in met if len(bundle) == 1 and
                 any(reference.had(rule[:-1]) == set(bundle) for rule in system.rules)]
        if len(met) < 2 or fixed:
            self.assertIsNone(found)
        else:
            self.same([type(found), len(found)], [tuple, system.key_count + 1])
            self.same(touched(system, found), met)
            self.same(set(linear_bundles(with_rule(system, found))) - set(linear_bundles(system)), {tuple(sorted(sum(met, ())))})

    def test_examples(self):
        self.assertIsNone(tying_rule(SUMS, [0, 1, 2]))
        self.assertIsNone(tying_rule(SUMS, []))
        self.assertIsNone(tying_rule(SUMS, (3,)))
        self.same(touched(SUMS, tying_rule(lot=[3, 1], system=SUMS)), ((0, 1, 2), (3,)))
        self.assertIsNone(tying_rule(FIXED, [0, 1]))
        self.assertIsNone(tying_rule(FIXED, [0, 1, 2]))
        self.assertIsNone(tying_rule(FIXED, [0]))

    def test_all_lots(self):
        for _, system in small_systems():
            for lot in reference.lots(system.key_count):
                self.check(system, list(lot)[::-1])

    def test_no_rule_does_where_none_is_told(self):
        for rules, system in small_systems():
            states = reference.obeying(system.prime, system.key_count, rules)
            if len(states) * system.prime ** system.key_count > 2000:
                continue
            every = {touched_bundles(system, states, row + (0,))
                     for row in itertools.product(range(system.prime), repeat=system.key_count)}
            for lot in reference.lots(system.key_count):
                met = tuple(bundle for bundle in linear_bundles(system) if set(bundle) & set(lot))
                self.assertEqual(tying_rule(system, lot) is not None, len(met) > 1 and met in every)

    def test_no_lot(self):
        for value in no_sequences():
            self.refuses(InvalidLot, 0, tying_rule, SUMS, value)
        for entry in no_entries() + [4, 3]:
            if type(entry) is not int or entry > 2 or entry < 0:
                self.refuses(InvalidLot, 2, tying_rule, SUMS, [3, 0, entry])
        self.refuses(InvalidLot, 1, tying_rule, SUMS, (1, 1))

    def test_at_the_limits(self):
        chance = random.Random(5)
        for system in large_systems():
            for count in (0, 1, 2, 3, 12):
                self.check(system, chance.sample(range(12), count))


if __name__ == "__main__":
    unittest.main()
