"""Point [32]: levels as stores, and stores as levels."""

import itertools
import random
import unittest

from bothplans.errors import Refused
from bothplans.leveled import levels_of, levels_store, unclosed
from bothplans.levels import Levels, keeps_rules, lowest
from bothplans.rings import level_bundles, rings
from bothplans.stores import Store
from tests import reference
from tests.support import PlanCase, all_rows, full_store, limit_stores, small_stores
from tests.systems import small_levels

SOME = Levels([3, 3, 2], [(0, 1, 1, 1), (1, 1, 0, 1), (2, 1, 0, 2)])


def first_unclosed(store):
    for place, (one, other) in enumerate(reference.pairs(store)):
        if not {reference.lower(one, other), reference.upper(one, other)} <= set(store.states):
            return one, other
    return None


def limit_levels_stores():
    """Stores of at most 300 states that are closed under lower and upper rows, with 8 keys and values up to 7."""
    chance = random.Random(300)
    found = [full_store(2, 2, 2, 2, 2, 2, 2, 2), Store([8] * 8, [(value,) * 8 for value in range(8)]), Store([8] * 8, [(3,) * 8])]
    found.append(Store([8, 8, 4, 1, 1, 1, 1, 1], all_rows([8, 8, 4, 1, 1, 1, 1, 1])))
    while len(found) < 9:
        rows = {tuple(chance.randrange(8) for _ in range(8)) for _ in range(4)}
        for _ in range(3):
            pairs = list(itertools.combinations(rows, 2))
            rows |= {reference.lower(*pair) for pair in pairs} | {reference.upper(*pair) for pair in pairs}
        store = Store([8] * 8, sorted(rows)) if len(rows) <= 300 else None
        if store and first_unclosed(store) is None:
            found.append(store)
    return found


class LeveledTest(PlanCase):
    def test_examples(self):
        self.same(unclosed(Store([2, 2], [(0, 1), (1, 0)])), ((0, 1), (1, 0)))
        self.same(levels_of(Store([3], [[2], [0]])) == Levels([3], [[0, 1, 0, 2]]), True)
        self.assertIsNone(unclosed(store=full_store(3, 2)))
        self.refuses(Refused, 0, levels_of, Store([2, 2], [(0, 1), (1, 0)]))
        self.refuses(Refused, 1, levels_of, store=Store([3, 3], [(0, 0), (1, 2), (2, 1), (2, 2)]))

    def test_stores_of_levels(self):
        for rules, levels in small_levels():
            made = levels_store(levels)
            self.assertIs(type(made), Store)
            self.same((made.sizes, made.states), (levels.sizes, tuple(reference.keeping(levels.sizes, rules))))
        self.same(levels_store(levels=SOME).states[:2], ((0, 0, 0), (1, 1, 0)))

    def test_unclosed(self):
        for store in small_stores():
            self.same(unclosed(store), first_unclosed(store))

    def test_levels_of_stores(self):
        for store in small_stores():
            pair = first_unclosed(store)
            if pair is not None:
                self.refuses(Refused, store.states.index(pair[0]), levels_of, store)
                continue
            made = levels_of(store)
            self.assertIs(type(made), Levels)
            self.same(made.sizes, store.sizes)
            self.assertEqual(reference.keeping(store.sizes, made.rules), list(store.states))
            self.assertEqual(levels_store(made), store)

    def test_there_and_back(self):
        for _, levels in small_levels():
            self.assertEqual(levels_of(levels_store(levels)), levels)

    def test_one_state_and_keys_with_one_value(self):
        for store in (Store([1], [[0]]), Store([5, 1, 3], [(4, 0, 1)]), Store([4, 4], [(1, 1), (2, 2)])):
            self.assertEqual(levels_store(levels_of(store)), store)
        self.same(levels_store(Levels([1, 1], [])).states, ((0, 0),))

    def test_at_the_limits(self):
        for store in limit_levels_stores():
            self.assertIsNone(unclosed(store))
            made = levels_of(store)
            self.assertEqual(levels_store(made), store)
            for state in store.states[::29]:
                self.same(keeps_rules(made, state), True)
                self.same(lowest(made, state), state)
            # What is told here may be passed on.
            self.same(rings(made), reference.rings(store.sizes, store.states))
            self.same(len(sum(level_bundles(made), ())), 8)
        for store in limit_stores():
            self.same(unclosed(store), first_unclosed(store))


if __name__ == "__main__":
    unittest.main()
