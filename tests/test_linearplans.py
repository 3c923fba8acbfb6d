"""Point [30]: rows as questions, evidence for what a lot tells, two plans."""

import itertools
import random
import unittest

from bothplans.chains import is_joined
from bothplans.errors import InvalidLot, InvalidQuestion
from bothplans.linear import LinearRules, linear_store
from bothplans.linearplans import is_row_evidence, is_two_plans, row_evidence, two_plans
from bothplans.telling import tells
from tests import reference
from tests.support import PlanCase, Unfriendly, as_lists, no_entries, no_numbers, no_sequences
from tests.systems import large_systems, small_systems

SUMS = LinearRules(3, 4, [(2, 2, 2, 0, 1), [1, 1, 1, 0, 2]])
FIXED = LinearRules(5, 3, [(1, 0, 0, 4), (0, 1, 2, 0)])
RULE, CHANGE = ("rule", (2, 2, 2, 0, 1)), ("change", (1, 2, 0, 0))
TWO = (0, (1, 2), (1, 2, 0, 0))


def small_states():
    for rules, system in small_systems():
        states = reference.obeying(system.prime, system.key_count, rules)
        if len(states) <= 60:
            yield system, states


def some_rows(system, count, seed=30):
    chance = random.Random(seed)
    yield (0,) * system.key_count
    for key in range(system.key_count):
        yield tuple(int(key == other) for other in range(system.key_count))
    for _ in range(count):
        yield tuple(chance.randrange(system.prime) for _ in range(system.key_count))


def does_tell(prime, states, row, lot):
    seen = {}
    for state in states:
        asked = sum(value * factor for value, factor in zip(state, row)) % prime
        if seen.setdefault(tuple(state[key] for key in lot), asked) != asked:
            return False
    return True


def is_evidence(system, states, row, lot, kind, shown):
    """For what is a rule, or a row for all keys."""
    prime = system.prime
    if kind == "rule":
        return (all(sum(value * factor for value, factor in zip(state, shown)) % prime == shown[-1] for state in states)
                and all(shown[key] == row[key] for key in range(system.key_count) if key not in lot))
    return (shown in reference.changes(prime, states) and not reference.had(shown) & set(lot)
            and sum(value * factor for value, factor in zip(shown, row)) % prime != 0)


class EvidenceTest(PlanCase):
    def test_examples(self):
        self.same(is_row_evidence(SUMS, [2, 0, 0, 0], [1, 2], RULE), True)
        self.same(is_row_evidence(value=CHANGE, lot=[3], row=(1, 0, 0, 1), system=SUMS), True)
        self.same(row_evidence(SUMS, [2, 0, 0, 0], [1, 2])[0], "rule")
        self.same(row_evidence(lot=(2, 3), row=(1, 0, 0, 1), system=SUMS)[0], "change")
        self.same(row_evidence(FIXED, (3, 0, 0), []), ("rule", (3, 0, 0, 2)))
        self.same(row_evidence(LinearRules(7, 2, []), (0, 0), ())[0], "rule")
        self.same(row_evidence(LinearRules(7, 2, []), (0, 3), [0])[0], "change")

    def test_just_one_kind_for_all_lots(self):
        for system, states in small_states():
            for row in some_rows(system, 2):
                for lot in reference.lots(system.key_count):
                    found = row_evidence(system, list(row), list(lot)[::-1])
                    kind, shown = found
                    self.same([type(found), type(shown), {type(number) for number in shown}], [tuple, tuple, {int}])
                    self.assertEqual(len(shown), system.key_count + (kind == "rule"))
                    self.assertTrue(is_evidence(system, states, row, lot, kind, shown))
                    self.same(is_row_evidence(system, row, lot, found), True)
                    self.assertEqual(kind == "rule", does_tell(system.prime, states, row, lot))

    def test_a_rule_exactly_if_the_lot_tells_what_the_row_asks(self):
        for system, states in list(small_states())[::4]:
            if system.prime <= 7:
                store = linear_store(system)
                for row in some_rows(system, 1, 4):
                    question = tuple(sum(value * factor for value, factor in zip(state, row)) % system.prime
                                     for state in store.states)
                    for lot in reference.lots(system.key_count):
                        self.assertEqual(row_evidence(system, row, lot)[0] == "rule", tells(store, question, lot))

    def test_all_values(self):
        for system, states in small_states():
            if system.prime ** system.key_count > 30:
                continue
            prime, count = system.prime, system.key_count
            for row in some_rows(system, 1):
                for lot in reference.lots(count):
                    kinds = set()
                    for kind, length in (("rule", count + 1), ("change", count)):
                        for shown in itertools.product(range(prime), repeat=length):
                            wanted = is_evidence(system, states, row, lot, kind, shown)
                            self.same(is_row_evidence(system, row, lot, (kind, shown)), wanted)
                            if wanted:
                                kinds.add(kind)
                    self.same(kinds, {row_evidence(system, row, lot)[0]})

    def test_other_values_are_none(self):
        row, lot = [2, 0, 0, 0], [1, 2]
        for value in no_entries() + [
                list(RULE), as_lists(RULE), ("rule", list(RULE[1])), ("rule",), RULE + (0,), ("Rule", RULE[1]), ("", RULE[1]),
                (b"rule", RULE[1]), (None, RULE[1]), ("change", RULE[1]), ("rule", CHANGE[1]), ("rule", (2, 2, 2, 0)),
                ("rule", (2, 2, 2, 0, 0)), ("rule", (1, 1, 1, 0, 2)), ("rule", (0, 0, 0, 0, 0)), ("rule", (2, 2, 2, 3, 1)),
                ("rule", (2, 2, 2, 0, True)), ("rule", (2, 2, 2.0, 0, 1)), ("rule", None), RULE[::-1], (Unfriendly(), RULE[1]),
                ("change", CHANGE[1]), ("change", (0, 0, 0, 0)), ("change", None)]:
            self.same(is_row_evidence(SUMS, row, lot, value), False)
        for value in (CHANGE[:1], ("change", list(CHANGE[1])), ("change", (1, 2, 0)), ("change", (1, 2, 0, 0, 0)), list(CHANGE),
                      ("change", (1, True, 0, 0)), ("change", (1, 1, 0, 0)), ("change", (1, 1, 1, 0)), ("change", (1, 1, 1, 2)),
                      ("rule", CHANGE[1]), ("change", (2, -2, 0, 0)), ("", CHANGE[1]), ("Change", CHANGE[1]), ("rules", CHANGE[1])):
            self.same(is_row_evidence(SUMS, [1, 0, 0, 1], [2, 3], value), False)
        self.same(is_row_evidence(SUMS, [1, 0, 0, 1], [2, 3], CHANGE), True)
        self.same(is_row_evidence(SUMS, [1, 1, 0, 1], [2, 3], CHANGE), False)
        self.same(is_row_evidence(SUMS, [1, 0, 0, 1], [1, 3], CHANGE), False)
        for entry in no_entries():
            for kind in ("rule", "change"):
                self.same(is_row_evidence(SUMS, row, lot, (kind, entry)), False)
            self.same(is_row_evidence(SUMS, row, lot, (entry, RULE[1])), False)

    def test_errors_from_left_to_right(self):
        for function, more in ((row_evidence, ()), (is_row_evidence, (RULE,)), (is_row_evidence, (None,))):
            for row in no_sequences() + [(), (0,) * 3, (0,) * 5, (0, 0, 0, 3), (0, 0, -1, 0), (True, 0, 0, 0), (0, 0.0, 0, 0),
                                         [0, None, 0, 0], [0, 0, 0, Unfriendly()]]:
                self.refuses(InvalidQuestion, 0, function, SUMS, row, None, *more)
                self.refuses(InvalidQuestion, 0, function, SUMS, row, [0], *more)
            for lot in no_sequences():
                self.refuses(InvalidLot, 0, function, SUMS, (0, 0, 0, 1), lot, *more)
            self.refuses(InvalidLot, 1, function, SUMS, [0, 0, 0, 1], [3, 4], *more)
            self.refuses(InvalidLot, 2, function, SUMS, [0, 0, 0, 1], [3, 0, 3], *more)

    def test_at_the_limits(self):
        chance = random.Random(3)
        kinds = set()
        for system in large_systems():
            for row in list(some_rows(system, 3))[::4]:
                for count in (0, 1, 3, 6, 9, 12):
                    lot = chance.sample(range(12), count)
                    found = row_evidence(system, row, lot)
                    kinds.add(found[0])
                    self.same(is_row_evidence(system, row, lot, found), True)
                    # There never is evidence of the other kind.
                    other = "change" if found[0] == "rule" else "rule"
                    self.same(is_row_evidence(system, row, lot, (other, found[1])), False)
        self.same(len(kinds), 2)


class TwoPlansTest(PlanCase):
    def is_right(self, system, states, key, lot, change):
        row = tuple(int(key == other) for other in range(system.key_count))
        return (key not in lot and does_tell(system.prime, states, row, lot)
                and change in reference.changes(system.prime, states) and change[key] != 0)

    def test_examples(self):
        self.same(is_two_plans(SUMS, TWO), True)
        self.same(is_two_plans(value=TWO, system=SUMS), True)
        self.assertIsNone(two_plans(LinearRules(7, 2, [])))
        self.assertIsNone(two_plans(system=LinearRules(7, 2, [(1, 0, 3)])))
        self.same(is_two_plans(FIXED, (1, (0, 2), (0, 3, 1))), True)
        self.same(is_two_plans(FIXED, (1, (0,), (0, 3, 1))), False)
        self.same(is_two_plans(FIXED, (0, (), (0, 3, 1))), False)

    def test_some_exactly_if_the_states_are_not_joined(self):
        for system, states in small_states():
            found = two_plans(system)
            self.assertEqual(found is None, all(len(reference.had(rule[:-1])) < 2 for rule in system.rules))
            if system.prime <= 7:
                self.assertEqual(found is None, is_joined(linear_store(system)))
            if found is not None:
                self.assertIs(type(found), tuple)
                self.assertIn(found[1], reference.lots(system.key_count))
                self.assertTrue(self.is_right(system, states, *found))
                self.same(is_two_plans(system, found), True)

    def test_all_values(self):
        for system, states in small_states():
            if system.prime ** system.key_count > 30:
                continue
            some = False
            for change in itertools.product(range(system.prime), repeat=system.key_count):
                for key, lot in itertools.product(range(system.key_count), reference.lots(system.key_count)):
                    wanted = self.is_right(system, states, key, lot, change)
                    some = some or wanted
                    self.same(is_two_plans(system, (key, lot, change)), wanted)
            self.assertEqual(some, two_plans(system) is not None)

    def test_other_values_are_none(self):
        key, lot, change = TWO
        for value in no_entries() + [
                list(TWO), as_lists(TWO), (key, list(lot), change), (key, lot, list(change)), (key, lot), TWO + (0,), (False, lot, change),
                (0.0, lot, change), (key, (2, 1), change), (key, (0, 1, 2), change), (key, (1,), change), (key, (1, 2, 4), change),
                (key, lot, (0, 1, 2, 0)), (key, lot, (1, 1, 0, 0)), (key, lot, (0,) * 4), (key, lot, (1, 2, 0)), (3, lot, change),
                (4, lot, change), (-1, lot, change), (None, None, None), (key, (1, True), change), (key, (1, 2, 2), change)]:
            self.same(is_two_plans(SUMS, value), False)
        for entry in no_entries() + no_numbers():
            for at in range(3):
                self.same(is_two_plans(SUMS, TWO[:at] + (entry,) + TWO[at + 1:]), type(entry) is int and entry == 0 and at == 0)

    def test_at_the_limits(self):
        for system in large_systems():
            found = two_plans(system)
            self.assertEqual(found is None, all(len(reference.had(rule[:-1])) < 2 for rule in system.rules))
            if found is not None:
                self.same(is_two_plans(system, found), True)


if __name__ == "__main__":
    unittest.main()
