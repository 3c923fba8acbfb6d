"""Points [33] and [34]: rings, their rows and chains, the bundles of levels, sums."""

import itertools
import random
import unittest

from bothplans.bundles import finest, turning_bundles
from bothplans.errors import InvalidQuestion, InvalidState, Refused
from bothplans.leveled import levels_store
from bothplans.levels import Levels, keeps_rules
from bothplans.rings import level_bundles, ring_chain, ring_rows, rings, sum_turns
from tests import reference
from tests.support import PlanCase, Unfriendly, no_entries, no_sequences
from tests.systems import large_levels, small_levels

SOME = Levels([3, 3, 2], [(0, 1, 1, 1), (1, 1, 0, 1), (2, 1, 0, 2)])


def events(sizes):
    return [(key, level) for key, size in enumerate(sizes) for level in range(1, size)]


def between(sizes, one, other):
    """The events that occur in just one of two rows."""
    return tuple(event for event in events(sizes) if reference.occurs(event, one) != reference.occurs(event, other))


def allowed(rules, levels):
    return reference.keeping(levels.sizes, rules)


class RingsTest(PlanCase):
    def test_examples(self):
        self.same(rings(SOME), (((0, 1), (1, 1)), ((0, 2),), ((1, 2),), ((2, 1),)))
        self.same((ring_rows(SOME, (1, 1)), level_bundles(SOME)), (((0, 0, 0), (1, 1, 0)), ((0, 1), (2,))))
        self.same(ring_rows(event=[2, 1], levels=SOME), ((2, 1, 0), (2, 1, 1)))
        self.same(rings(levels=Levels([1, 1], [])), ())
        self.same(level_bundles(levels=Levels([1, 1], [])), ((0,), (1,)))
        self.same(rings(Levels([4], [(0, 1, 0, 3)])), (((0, 1), (0, 2), (0, 3)),))

    def test_all_rings(self):
        for rules, levels in small_levels():
            self.same(rings(levels), reference.rings(levels.sizes, allowed(rules, levels)))

    def test_ring_rows(self):
        for rules, levels in small_levels():
            rows = allowed(rules, levels)
            ring_of = {event: ring for ring in reference.rings(levels.sizes, rows) for event in ring}
            for event in events(levels.sizes):
                if event not in ring_of:
                    self.refuses(Refused, 0, ring_rows, levels, event)
                    continue
                one, other = ring_rows(levels, list(event))
                self.same(other, tuple(map(min, zip(*[row for row in rows if reference.occurs(event, row)]))))
                self.assertIn(other, rows)
                self.assertIn(one, rows)
                self.same(between(levels.sizes, one, other), ring_of[event])
                self.assertFalse(any(reference.occurs(member, one) for member in ring_of[event]))

    def test_what_is_no_event(self):
        wrong = no_entries() + [(), (0,), (0, 1, 1), (3, 1), (0, 0), (0, 3), (2, 2), (-1, 1), (0, -1), (True, 1), (0, True), (0, 1.0),
                                (0.0, 1), (None, 1), (0, None), ((0, 1),), [0, Unfriendly()], (0, 10 ** 20), (10 ** 20, 1)]
        for event in wrong:
            self.refuses(InvalidQuestion, 0, ring_rows, SOME, event)

    def test_events_that_are_not_open(self):
        levels = Levels([3, 3, 3], [(0, 0, 0, 1), (1, 2, 1, 3), (2, 1, 0, 3)])
        for event in ((0, 1), (1, 2), (2, 1), (2, 2)):
            self.refuses(Refused, 0, ring_rows, levels, event)
        self.same(ring_rows(levels, (0, 2)), ((1, 0, 0), (2, 0, 0)))
        self.same(rings(levels), (((0, 2),), ((1, 1),)))


class ChainTest(PlanCase):
    def check_chain(self, levels, ring_lots, one, other):
        found = ring_chain(levels, list(one), other)
        self.assertIs(type(found), tuple)
        self.same((found[0], found[-1]), (tuple(one), tuple(other)))
        met = []
        for row, after in zip(found, found[1:]):
            self.same(keeps_rules(levels, after), True)
            met.append(between(levels.sizes, row, after))
            self.assertIn(met[-1], ring_lots)
            self.assertTrue(set(reference.apart(row, after)) <= set(reference.apart(one, other)))
        self.assertEqual(len(set(met)), len(met))
        self.assertEqual(len(met), sum(set(ring) <= set(between(levels.sizes, one, other)) for ring in ring_lots))

    def test_examples(self):
        self.same(len(ring_chain(SOME, (1, 2, 0), (2, 1, 1))), 4)
        self.same(ring_chain(other=[0, 0, 0], one=[1, 1, 0], levels=SOME), ((1, 1, 0), (0, 0, 0)))
        self.same(ring_chain(SOME, (1, 1, 0), [1, 1, 0]), ((1, 1, 0),))

    def test_between_all_rows(self):
        for rules, levels in small_levels():
            rows = allowed(rules, levels)
            chance = random.Random(len(rows))
            ring_lots = reference.rings(levels.sizes, rows)
            for one, other in itertools.product(rows[:8] + chance.sample(rows, min(4, len(rows))), repeat=2):
                self.check_chain(levels, ring_lots, one, other)

    def test_rows_that_are_not_allowed(self):
        wrong = no_entries() + [(), (0, 0), (0, 0, 0, 0), (1, 0, 0), (0, 1, 0), (1, 1, 1), (3, 1, 0), (True, 1, 0), (0, 0, 0.0),
                                [0, 0, Unfriendly()], (0, 0, -1), (0, 0, 2)]
        for row in wrong:
            self.refuses(InvalidState, 0, ring_chain, SOME, row, (0, 0, 0))
            self.refuses(InvalidState, 0, ring_chain, SOME, row, row)
            self.refuses(InvalidState, 1, ring_chain, SOME, [0, 0, 0], row)


class BundlesTest(PlanCase):
    def test_the_finest_tying_of_the_allowed_rows(self):
        for _, levels in small_levels():
            self.same(level_bundles(levels), finest(levels_store(levels)))

    def test_what_hangs_together_by_the_rings(self):
        for levels in large_levels():
            keys = [[key for key, _ in ring] for ring in rings(levels)]
            self.same(level_bundles(levels), reference.hang_together(12, keys))

    def test_each_key_by_itself_exactly_if_no_ring_has_two(self):
        for _, levels in small_levels():
            single = all(len({key for key, _ in ring}) == 1 for ring in rings(levels))
            self.assertEqual(len(level_bundles(levels)) == levels.key_count, single)


class SumsTest(PlanCase):
    def asked(self, points, row):
        return sum(entry[value] for entry, value in zip(points, row))

    def check_turns(self, levels, points):
        found = sum_turns(levels, points)
        self.assertIs(type(found), tuple)
        bundles = [entry[0] for entry in found]
        self.assertEqual(sorted(set(bundles)), bundles)
        for entry in found:
            self.assertIs(type(entry), tuple)
            bundle, one, other = entry
            self.assertIn(bundle, level_bundles(levels))
            self.same((keeps_rules(levels, one), keeps_rules(levels, other)), (True, True))
            self.assertTrue(set(reference.apart(one, other)) <= set(bundle))
            self.assertNotEqual(self.asked(points, one), self.asked(points, other))
        return tuple(bundles)

    def some_points(self, levels, seed):
        chance = random.Random(seed)
        yield [[0] * size for size in levels.sizes]
        yield tuple(tuple(range(size)) for size in levels.sizes)
        yield [[chance.randrange(-1, 2) for _ in range(size)] for size in levels.sizes]
        yield [[chance.choice((10 ** 30 - 1, 1 - 10 ** 30, 0)) for _ in range(size)] for size in levels.sizes]
        # Where two keys rise together, the one may take back what the other one adds.
        yield [[value * (-1) ** key for value in range(size)] for key, size in enumerate(levels.sizes)]

    def test_examples(self):
        self.same(sum_turns(SOME, [[0, 1, 1], [0, -1, -1], [7, 7]]), ())
        self.same(self.check_turns(SOME, [[0, 1, 1], [0, -1, -1], [7, 8]]), ((2,),))
        self.same(self.check_turns(SOME, [[0, 1, 2], [0, -1, -1], [7, 7]]), ((0, 1),))
        self.same(sum_turns(points=((0, 0, 0), [5, 5, 5], [7, 7]), levels=SOME), ())

    def test_the_bundles_that_turn_the_question(self):
        for _, levels in small_levels():
            store = levels_store(levels)
            for points in self.some_points(levels, len(store.states)):
                asked = [self.asked(points, row) for row in store.states]
                numbers = sorted(set(asked))
                question = [numbers.index(number) for number in asked]
                self.same(self.check_turns(levels, points), turning_bundles(store, level_bundles(levels), question))

    def test_a_ring_always_changes_the_answer_by_the_same_amount(self):
        for rules, levels in list(small_levels())[::3]:
            rows = allowed(rules, levels)
            ring_lots = reference.rings(levels.sizes, rows)
            for points in self.some_points(levels, 7):
                amounts = {}
                for one, other in itertools.product(rows, repeat=2):
                    met = between(levels.sizes, one, other)
                    if met in ring_lots and reference.occurs(met[0], other):
                        change = self.asked(points, other) - self.asked(points, one)
                        self.assertEqual(amounts.setdefault(met, change), change)

    def test_points_that_are_none(self):
        right = [[0, 1, 1], [0, -1, -1], [7, 7]]
        for points in no_sequences():
            self.refuses(InvalidQuestion, 3, sum_turns, SOME, points)
        wrong = no_entries() + [(), [0, 1], [0, 1, 1, 1], [True, 0, 0], [0, 0, False], [0, 0.0, 0], [0, "1", 0], [0, None, 0],
                                [[0], 0, 0], [0, 0, Unfriendly()]]
        for entry in wrong:
            self.refuses(InvalidQuestion, 0, sum_turns, SOME, [entry, entry, entry])
            self.refuses(InvalidQuestion, 1, sum_turns, SOME, (right[0], entry, right[2]))
            self.refuses(InvalidQuestion, 1, sum_turns, SOME, [right[0], entry])
            self.refuses(InvalidQuestion, 1, sum_turns, SOME, right[:1] + [entry] + right[2:] + [entry])
        self.refuses(InvalidQuestion, 2, sum_turns, SOME, right[:2] + [[0, 0, 0]])

    def test_points_of_which_only_the_length_is_wrong(self):
        right = [[0, 1, 1], [0, -1, -1], [7, 7]]
        for points in ([], (), right[:1], right[:2], right + right[2:], right * 2, right + [None]):
            self.refuses(InvalidQuestion, 3, sum_turns, SOME, points)

    def test_what_is_passed_is_not_changed(self):
        points = [[0, 1, 2], [0, -1, -1], [7, 8]]
        sum_turns(SOME, points)
        self.assertEqual(points, [[0, 1, 2], [0, -1, -1], [7, 8]])


class LimitsTest(PlanCase):
    def test_at_the_limits(self):
        chance = random.Random(33)
        for levels in large_levels():
            ring_lots = rings(levels)
            self.assertEqual(sorted(set(ring_lots)), list(ring_lots))
            for ring in ring_lots[::5]:
                rows = {ring_rows(levels, event) for event in ring}
                self.assertEqual(len(rows), 1)
                one, other = rows.pop()
                self.same((keeps_rules(levels, one), keeps_rules(levels, other)), (True, True))
                self.same(between(levels.sizes, one, other), ring)
            ends = [ring_rows(levels, ring[0])[1] for ring in chance.sample(ring_lots, min(4, len(ring_lots)))]
            for one, other in itertools.product(ends, repeat=2):
                ChainTest.check_chain(self, levels, ring_lots, one, other)
            points = [[chance.randrange(-10 ** 30, 10 ** 30) for _ in range(20)] for _ in range(12)]
            found = SumsTest.check_turns(SumsTest(), levels, points)
            self.same(found, tuple(bundle for bundle in level_bundles(levels)
                                   if any(key in bundle for ring in ring_lots for key, _ in ring)))
            self.same(sum_turns(levels, [[5] * 20] * 12), ())


if __name__ == "__main__":
    unittest.main()
