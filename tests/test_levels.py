"""Points [31] and [32]: levels and their rules, lower and upper rows, breaches."""

import itertools
import random
import unittest

from bothplans.errors import InvalidQuestion, InvalidState, InvalidStore, Refused
from bothplans.levels import Levels, breach, highest, keeps_rules, lowest
from tests import reference
from tests.support import PlanCase, Unfriendly, all_rows, as_lists, no_entries, no_numbers, no_sequences
from tests.systems import large_levels, random_levels_rules, small_levels

SIZES, RULES = [3, 3, 2], [(0, 1, 1, 1), (1, 1, 0, 1), (2, 1, 0, 2)]
SOME = Levels(SIZES, RULES)

# Entries that are no rules for the sizes 3, 3, 2.
NO_RULES = [(), (0, 1, 1), (0, 1, 1, 1, 0), (3, 1, 1, 1), (0, 1, 3, 1), (0, 4, 1, 1), (0, 1, 1, 4), (2, 3, 0, 0), (0, 0, 2, 3),
            (-1, 1, 1, 1), (0, -1, 1, 1), (0, 1, -1, 1), (0, 1, 1, -1), (True, 1, 1, 1), (0, True, 1, 1), (0, 1, True, 1),
            (0, 1, 1, True), (0, 1.0, 1, 1), (0, "1", 1, 1), (None, 1, 1, 1), (0, 1, (1,), 1), [0, 1, 1, Unfriendly()]]


class LevelsTest(PlanCase):
    def test_attributes(self):
        self.same((SOME.key_count, SOME.sizes, SOME.rules), (3, (3, 3, 2), tuple(RULES)))
        for name in ("key_count", "sizes", "rules"):
            self.assertIn(name, vars(SOME))

    def test_rules_in_any_order_and_also_twice(self):
        rules = [[2, 1, 0, 2], (1, 1, 0, 1), [2, 1, 0, 2], (0, 1, 1, 1), [1, 1, 0, 1]]
        again = Levels(rules=tuple(rules), sizes=(3, 3, 2))
        self.same(again.rules, tuple(map(tuple, rules)))
        self.assertEqual(again, SOME)
        self.same(Levels([1], []).rules, ())

    def test_allowed_rows(self):
        for rules, levels in small_levels():
            rows = set(reference.keeping(levels.sizes, rules))
            self.same(levels.rules, tuple(rules))
            for row in all_rows(levels.sizes):
                self.same(keeps_rules(levels, row), row in rows)

    def test_equal_if_sizes_and_allowed_rows_are(self):
        by_sizes = {}
        for rules, levels in small_levels():
            by_sizes.setdefault(levels.sizes, []).append((levels, reference.keeping(levels.sizes, rules)))
        unlike = [found[0][0] for found in by_sizes.values()]
        for found in by_sizes.values():
            for (one, rows), (other, other_rows) in itertools.product(found, repeat=2):
                self.assertIs(one == other, rows == other_rows)
        for one, other in itertools.permutations(unlike, 2):
            self.assertIs(one == other, False)
        self.assertEqual(Levels([3], [[0, 1, 0, 2]]), Levels([3], [[0, 1, 0, 2], (0, 0, 0, 0), (0, 3, 0, 3)]))
        for value in no_sequences()[:-1] + [SOME.rules, (SOME.sizes, SOME.rules)]:
            if not isinstance(value, Unfriendly):
                self.assertIs(SOME == value, False)

    def test_rules_that_say_nothing_or_all(self):
        self.same([keeps_rules(Levels([2, 2], [(0, 0, 1, 1)]), row) for row in all_rows([2, 2])], [False, True, False, True])
        self.same([keeps_rules(Levels([2, 2], [(0, 1, 1, 2)]), row) for row in all_rows([2, 2])], [True, True, False, False])
        self.same([keeps_rules(Levels([2, 2], [(0, 2, 1, 2)]), row) for row in all_rows([2, 2])], [True] * 4)
        self.same([keeps_rules(Levels([2, 2], [(0, 0, 1, 0)]), row) for row in all_rows([2, 2])], [True] * 4)
        self.same([keeps_rules(Levels([3], [(0, 1, 0, 2)]), row) for row in all_rows([3])], [True, False, True])

    def test_wrong_sizes_and_rules(self):
        for sizes in no_sequences() + [[], (), [0], [2, 0], [2, -1], [2, True], [2.0], ["2"], [[2]], [None]]:
            self.refuses(InvalidStore, 0, Levels, sizes, None)
        for number in no_numbers():
            self.refuses(InvalidStore, 0, Levels, [2, number], [])
        for rules in no_sequences():
            self.refuses(InvalidStore, 1, Levels, [2, 2], rules)
        for entry in no_entries() + NO_RULES:
            self.refuses(InvalidStore, 2, Levels, SIZES, [entry])
            self.refuses(InvalidStore, 4, Levels, SIZES, [(0, 0, 0, 0), [2, 2, 1, 3], entry, entry])

    def test_the_first_rule_that_leaves_no_row(self):
        self.refuses(Refused, 0, Levels, [2], [(0, 0, 0, 2)])
        self.refuses(Refused, 1, Levels, [3, 3], [(0, 0, 0, 1), (0, 1, 1, 3)])
        self.refuses(Refused, 3, Levels, [3, 3], [(1, 2, 1, 3), (0, 1, 1, 2), (0, 3, 0, 3), (1, 0, 0, 1), (0, 0, 0, 3)])
        self.refuses(Refused, 0, Levels, [1, 1], [(1, 0, 0, 1)])
        # That an entry is no rule comes first, wherever it stands.
        self.refuses(InvalidStore, 3, Levels, [2], [(0, 0, 0, 2), (0, 0, 0, 3)])
        chance = random.Random(31)
        for sizes in ([2, 2], [3, 2], [2, 2, 2], [4]):
            for _ in range(150):
                rules = random_levels_rules(chance, sizes, chance.randrange(1, 7)) + [(0, 0, len(sizes) - 1, 1)]
                wrong = [at for at in range(len(rules)) if not reference.keeping(sizes, rules[:at + 1])]
                if wrong:
                    self.refuses(Refused, wrong[0], Levels, sizes, rules)
                else:
                    self.same(Levels(sizes, rules).rules, tuple(rules))

    def test_what_is_passed_is_neither_changed_nor_kept(self):
        sizes, rules = [3, 3, 2], as_lists(RULES)
        levels = Levels(sizes, rules)
        self.assertEqual((sizes, rules), ([3, 3, 2], as_lists(RULES)))
        sizes[0] = 9
        rules[0][3] = 2
        rules.clear()
        self.same((levels.sizes, levels.rules), (SOME.sizes, SOME.rules))
        self.assertEqual(levels, SOME)


class RowsTest(PlanCase):
    def test_examples(self):
        self.same((lowest(SOME, (0, 0, 1)), highest(SOME, (0, 2, 1))), ((2, 1, 1), (0, 0, 0)))
        self.same((breach(SOME, (1, 2, 2, 1)), breach(SOME, (2, 1, 1, 1))), ((1, 2, 0), None))
        self.same(keeps_rules(value=(2, 1, 1), levels=SOME), True)
        self.same(lowest(row=[0, 1, 0], levels=SOME), (1, 1, 0))
        self.same(highest(row=[1, 1, 1], levels=SOME), (1, 1, 0))
        self.same(breach(rule=[0, 0, 0, 1], levels=SOME), (0, 0, 0))

    def test_lower_and_upper_rows_are_allowed(self):
        for rules, levels in list(small_levels())[::3]:
            rows = reference.keeping(levels.sizes, rules)
            for one, other in itertools.combinations(rows, 2):
                self.same(keeps_rules(levels, reference.lower(one, other)), True)
                self.same(keeps_rules(levels, reference.upper(one, other)), True)

    def test_lowest_and_highest(self):
        for rules, levels in small_levels():
            rows = reference.keeping(levels.sizes, rules)
            for row in all_rows(levels.sizes):
                above = [other for other in rows if reference.lower(row, other) == row]
                below = [other for other in rows if reference.upper(row, other) == row]
                self.same(lowest(levels, list(row)), tuple(map(min, zip(*above))) if above else None)
                self.same(highest(levels, row), tuple(map(max, zip(*below))) if below else None)

    def test_breach(self):
        for rules, levels in list(small_levels())[::2]:
            rows = reference.keeping(levels.sizes, rules)
            keys = range(levels.key_count)
            for one, other in itertools.product(keys, repeat=2):
                for level, least in itertools.product(range(levels.sizes[one] + 1), range(levels.sizes[other] + 1)):
                    broken = [row for row in rows if row[one] >= level and row[other] < least]
                    found = breach(levels, [one, level, other, least])
                    self.same(found, tuple(map(min, zip(*broken))) if broken else None)
                    if broken:
                        self.assertIn(found, broken)

    def test_what_is_no_row(self):
        wrong = no_entries() + [(), (0, 0), (0, 0, 0, 0), (3, 0, 0), (0, 0, 2), (0, -1, 0), (True, 0, 0), (0, 0, False), (0.0, 0, 0),
                                ("0", 0, 0), (None, 0, 0), ((0,), 0, 0), [0, 0, Unfriendly()]]
        for row in wrong:
            self.refuses(InvalidState, 0, lowest, SOME, row)
            self.refuses(InvalidState, 0, highest, SOME, row)
            self.same(keeps_rules(SOME, row), False)
        self.same(keeps_rules(SOME, [0, 0, 0]), False)
        self.same(keeps_rules(SOME, (0, 0, 0)), True)
        # A row that is not allowed is one, too.
        self.same((lowest(SOME, (1, 0, 0)), keeps_rules(SOME, (1, 0, 0))), ((1, 1, 0), False))

    def test_what_is_no_rule(self):
        for rule in no_entries() + NO_RULES:
            self.refuses(InvalidQuestion, 0, breach, SOME, rule)
        for rule in ((0, 3, 1, 3), [0, 3, 0, 0], (2, 2, 2, 0)):
            self.assertIsNone(breach(SOME, rule))

    def test_none(self):
        levels = Levels([3, 3], [(0, 0, 1, 1), (0, 2, 1, 3)])
        self.assertIsNone(lowest(levels, (2, 0)))
        self.assertIsNone(highest(levels, (2, 0)))
        self.same((lowest(levels, (0, 0)), highest(levels, (2, 2))), ((0, 1), (1, 2)))

    def test_at_the_limits(self):
        chance = random.Random(32)
        for levels in large_levels():
            for _ in range(20):
                row = [chance.randrange(20) for _ in range(12)]
                above, below = lowest(levels, row), highest(levels, row)
                for found in (above, below):
                    if found is not None:
                        self.same(keeps_rules(levels, found), True)
                        self.same((lowest(levels, found), highest(levels, found)), (found, found))
                if above is not None:
                    self.assertEqual(reference.lower(above, row), tuple(row))
                if below is not None:
                    self.assertEqual(reference.upper(below, row), tuple(row))
                if None not in (above, below):
                    self.same(breach(levels, (0, 0, 0, 0)), None)
                rule = (chance.randrange(12), chance.randrange(21), chance.randrange(12), chance.randrange(21))
                found = breach(levels, rule)
                if found is not None:
                    self.same(keeps_rules(levels, found), True)
                    self.assertTrue(found[rule[0]] >= rule[1] and found[rule[2]] < rule[3])
            for rule in levels.rules:
                self.assertIsNone(breach(levels, rule))
            self.assertEqual(Levels([20] * 12, levels.rules[::-1]), levels)


if __name__ == "__main__":
    unittest.main()
