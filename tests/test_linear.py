"""Point [27]: linear rules, the states that obey them, and their stores."""

import itertools
import random
import unittest

from bothplans.errors import InvalidStore, Refused
from bothplans.linear import LinearRules, freedom, linear_store, obeys
from bothplans.stores import Store
from tests import reference
from tests.support import PlanCase, Unfriendly, as_lists, no_entries, no_numbers, no_sequences
from tests.systems import large_systems, small_systems

RULES = [(2, 2, 2, 0, 1), [1, 1, 1, 0, 2]]
SUMS = LinearRules(3, 4, RULES)


class LinearRulesTest(PlanCase):
    def test_examples(self):
        self.same((SUMS.prime, SUMS.key_count, SUMS.rules), (3, 4, ((1, 1, 1, 0, 2),)))
        self.same((freedom(SUMS), obeys(SUMS, (0, 1, 1, 2))), (3, True))
        self.same((freedom(system=SUMS), obeys(value=(0, 1, 1, 1), system=SUMS)), (3, True))

    def test_attributes_are_set_on_the_object(self):
        for name in ("prime", "key_count", "rules"):
            self.assertIn(name, vars(SUMS))

    def test_no_rules_at_all(self):
        for prime in (2, 3, 5, 7, 11, 13):
            for keys in (1, 12):
                for rules in ([], (), [[0] * keys + [0]], [(0,) * (keys + 1)] * 3):
                    system = LinearRules(prime, keys, rules)
                    self.same((system.prime, system.key_count, system.rules, freedom(system)), (prime, keys, (), keys))
                    self.same(obeys(system, (prime - 1,) * keys), True)

    def test_reduced_rules(self):
        for rules, system in small_systems():
            prime, count = system.prime, system.key_count
            self.assertEqual(sorted(system.rules), list(system.rules))
            leads = []
            for rule in system.rules:
                self.same([type(rule), len(rule), {type(number) for number in rule}], [tuple, count + 1, {int}])
                self.assertTrue(any(rule[:-1]))
                leads.append(next(key for key in range(count) if rule[key]))
                self.assertEqual(rule[leads[-1]], 1)
            self.assertEqual(len(set(leads)), len(leads))
            for rule, lead in zip(system.rules, leads):
                self.assertFalse(any(rule[other] for other in leads if other != lead))
            self.assertEqual(reference.obeying(prime, count, rules), reference.obeying(prime, count, system.rules))

    def test_the_states_tell_the_reduced_rules(self):
        known = {}
        for rules, system in small_systems():
            states = reference.obeying(system.prime, system.key_count, rules)
            key = (system.prime, system.key_count, tuple(states))
            self.same(known.setdefault(key, system.rules), system.rules)
            self.assertEqual(len(states), system.prime ** freedom(system))

    def test_rules_twice_in_any_order_and_lists(self):
        chance = random.Random(1)
        for rules, system in small_systems():
            told = list(rules) * 2
            chance.shuffle(told)
            again = LinearRules(rules=as_lists(told), keys=system.key_count, prime=system.prime)
            self.assertEqual(again, system)
            self.same(again.rules, system.rules)
            self.assertEqual(LinearRules(system.prime, system.key_count, system.rules), system)

    def test_equal_if_all_three_are(self):
        self.assertEqual(SUMS, LinearRules(3, 4, [(1, 1, 1, 0, 2)]))
        self.assertIs(SUMS == LinearRules(3, 4, [(1, 1, 1, 0, 2)]), True)
        for other in (LinearRules(5, 4, [(1, 1, 1, 0, 2)]), LinearRules(3, 4, []), LinearRules(3, 4, [(1, 1, 1, 0, 1)]),
                      LinearRules(3, 4, [(1, 1, 1, 0, 2), (0, 0, 0, 1, 0)])):
            self.assertIs(SUMS == other, False)
            self.assertIs(SUMS != other, True)
        self.assertFalse(LinearRules(3, 4, []) == LinearRules(3, 5, []) or LinearRules(2, 1, []) == LinearRules(3, 1, []))
        for value in no_sequences()[:-1] + [SUMS.rules, (3, 4, SUMS.rules), linear_store(SUMS)]:
            if not isinstance(value, Unfriendly):
                self.assertFalse(SUMS == value)

    def test_wrong_primes_and_keys(self):
        for prime in no_numbers() + no_sequences() + [4, 6, 9, 15, 17, 10 ** 20]:
            if not (type(prime) is int and prime == 7):
                self.refuses(InvalidStore, 0, LinearRules, prime, None, None)
        for keys in no_numbers() + no_sequences() + [13, 10 ** 20]:
            if not (type(keys) is int and 1 <= keys <= 12):
                self.refuses(InvalidStore, 1, LinearRules, 2, keys, None)

    def test_wrong_rules(self):
        for rules in no_sequences():
            self.refuses(InvalidStore, 2, LinearRules, 2, 2, rules)
        wrong = no_entries() + [(), (1, 1), (1, 1, 1, 1), (1, 1, 3), (3, 1, 1), (1, -1, 1), (True, 1, 1), (1, 1, False),
                                (1, 1.0, 1), (1, "1", 1), (1, None, 1), ((1,), 1, 1), [1, Unfriendly(), 1]]
        for entry in wrong:
            self.refuses(InvalidStore, 3, LinearRules, 3, 2, [entry])
            self.refuses(InvalidStore, 5, LinearRules, 3, 2, [(1, 1, 1), [0, 2, 1], entry, entry])

    def test_rules_that_no_row_obeys(self):
        self.refuses(InvalidStore, 3, LinearRules, 2, 2, [(0, 0, 1)])
        self.refuses(InvalidStore, 4, LinearRules, 3, 2, [(1, 1, 1), (2, 2, 1), (0, 0, 1)])
        self.refuses(InvalidStore, 6, LinearRules, 3, 2, [(1, 1, 1), (2, 2, 2), (1, 0, 0), (0, 2, 1)])
        # That an entry is no linear rule comes first, wherever it stands.
        self.refuses(InvalidStore, 5, LinearRules, 2, 2, [(0, 0, 1), (1, 1, 1), (1, 1)])

    def test_the_first_rule_that_no_row_obeys_with_those_before(self):
        chance = random.Random(3)
        for prime, keys in ((2, 3), (3, 3), (5, 2), (13, 1)):
            for _ in range(60):
                rules = [tuple(chance.randrange(prime) for _ in range(keys + 1)) for _ in range(chance.randrange(1, 6))]
                wrong = [at for at in range(len(rules)) if not reference.obeying(prime, keys, rules[:at + 1])]
                if wrong:
                    self.refuses(InvalidStore, 3 + wrong[0], LinearRules, prime, keys, rules)
                else:
                    self.assertEqual(len(reference.obeying(prime, keys, rules)),
                                     prime ** freedom(LinearRules(prime, keys, rules)))

    def test_what_is_passed_is_neither_changed_nor_kept(self):
        rules = [[2, 2, 2, 0, 1], [1, 1, 1, 0, 2]]
        system = LinearRules(3, 4, rules)
        self.assertEqual(rules, [[2, 2, 2, 0, 1], [1, 1, 1, 0, 2]])
        rules[0][0] = 7
        rules.clear()
        self.same(system.rules, SUMS.rules)

    def test_at_the_limits(self):
        for system in large_systems():
            self.same(system.key_count - len(system.rules), freedom(system))
            self.assertEqual(LinearRules(13, 12, list(system.rules)[::-1] * 2), system)


class StatesTest(PlanCase):
    def test_obeys(self):
        for rules, system in small_systems():
            prime, count = system.prime, system.key_count
            states = set(reference.obeying(prime, count, rules))
            for row in list(itertools.product(range(prime), repeat=count))[::3]:
                self.same(obeys(system, row), row in states)

    def test_other_values_do_not_obey(self):
        self.same(obeys(SUMS, (0, 1, 1, 2)), True)
        for value in no_entries() + [[0, 1, 1, 2], (0, 1, 1), (0, 1, 1, 2, 0), (0, 1, 1, 3), (0, 1, 1, -1), (False, 1, 1, 2),
                                     (0, 1, 1, 2.0), (3, 1, 1, 2), (0, 1, 1, None), ((0,), 1, 1, 2), (0, 1, 0, 2)]:
            self.same(obeys(SUMS, value), False)
        for entry in no_entries():
            if not type(entry) is int:
                self.same(obeys(LinearRules(2, 1, []), (entry,)), False)

    def test_stores(self):
        for rules, system in small_systems():
            states = reference.obeying(system.prime, system.key_count, rules)
            if system.prime > 7 or len(states) > 300:
                self.refuses(Refused, 0, linear_store, system)
            else:
                made = linear_store(system)
                self.assertIs(type(made), Store)
                self.same((made.sizes, made.states), ((system.prime,) * system.key_count, tuple(states)))

    def test_stores_that_would_be_too_large(self):
        def fixing(prime, keys, count):
            return LinearRules(prime, keys, [[int(key == at) for key in range(keys)] + [1] for at in range(count)])

        self.same(len(linear_store(fixing(2, 8, 0)).states), 256)
        self.same(len(linear_store(fixing(3, 8, 3)).states), 243)
        self.same(len(linear_store(system=fixing(5, 8, 5)).states), 125)
        self.same(linear_store(fixing(7, 8, 8)).states, ((1,) * 8,))
        for system in (fixing(2, 9, 9), fixing(2, 12, 12), fixing(11, 1, 1), fixing(13, 2, 2), fixing(3, 8, 2), fixing(7, 3, 0),
                       fixing(7, 8, 5), fixing(5, 4, 0), fixing(2, 9, 0), fixing(13, 12, 0)):
            self.refuses(Refused, 0, linear_store, system)


if __name__ == "__main__":
    unittest.main()
