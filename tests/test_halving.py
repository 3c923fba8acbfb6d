"""Point [40]: turning changes found by halves."""

import itertools
import random
import unittest

from bothplans.errors import InvalidState, Refused
from bothplans.halving import turning_change
from bothplans.stores import Store
from tests import reference
from tests.asked import Asked, changes_within, joined_limit_stores, joined_stores
from tests.support import PlanCase, full_store, no_entries, some_questions

SUMS = Store([3, 3], [(0, 2), (1, 1), (2, 0)])
SQUARE = full_store(2, 2)


def never(state):
    raise RuntimeError("asked")


class TurningChangeTest(PlanCase):
    def check(self, store, question, one, other, length=None):
        """Whatever is told, it is such a pair, and not too much is asked for it."""
        ask = Asked(store, question)
        pair = turning_change(store, ask, one, other)
        self.assertEqual((type(pair), len(pair)), (tuple, 2))
        first, second = pair
        self.same(pair, (tuple(first), tuple(second)))
        self.assertTrue(first in store.states and second in store.states)
        self.assertNotEqual(ask.answers[first], ask.answers[second])
        free = set(reference.apart(one, other))
        changed = reference.apart(first, second)
        self.assertTrue(len(changed) == 1 and set(changed) <= free)

        def may_step(state, after):
            return len(reference.apart(state, after)) == 1 and set(reference.apart(state, after)) <= free

        # A chain leads to the first, and another one on from the second.
        self.assertIn(first, reference.reached(store, one, may_step))
        self.assertIn(other, reference.reached(store, second, may_step))
        self.assertEqual(ask.states[:2], [one, other])
        self.assertEqual(len(set(ask.states)), len(ask.states))
        changes = reference.reached(store, one, may_step)[other] if length is None else length
        self.assertLessEqual(len(ask.states), 2 + changes_within(changes))

    def test_examples(self):
        self.same(turning_change(SQUARE, lambda state: state[0] + state[1], (0, 0), (0, 1)), ((0, 0), (0, 1)))
        self.same(turning_change(other=[0, 1], one=[0, 0], ask=lambda state: state[1], store=SQUARE), ((0, 0), (0, 1)))
        self.same(turning_change(SQUARE, lambda state: state[1], (0, 1), (0, 0)), ((0, 1), (0, 0)))

    def test_all_pairs_of_states(self):
        for store in joined_stores():
            for question in list(some_questions(store))[1:]:
                told = reference.answers(store, question)
                for one, other in list(itertools.permutations(store.states, 2))[::2]:
                    if told[one] != told[other]:
                        self.check(store, question, one, other)

    def test_one_answer(self):
        ask = Asked(SQUARE, (4, 5, 5, 4))
        self.refuses(Refused, 1, turning_change, SQUARE, ask, (0, 0), [1, 1])
        self.assertEqual(ask.states, [(0, 0), (1, 1)])

    def test_one_state_twice_is_asked_for_once(self):
        ask = Asked(SQUARE, (4, 5, 5, 4))
        self.refuses(Refused, 1, turning_change, SQUARE, ask, (0, 1), [0, 1])
        self.assertEqual(ask.states, [(0, 1)])

    def test_neighbours_need_no_further_asking(self):
        ask = Asked(SQUARE, (4, 5, 6, 7))
        self.same(turning_change(SQUARE, ask, [1, 1], [0, 1]), ((1, 1), (0, 1)))
        self.assertEqual(ask.states, [(1, 1), (0, 1)])

    def test_the_first_thing_that_is_wrong(self):
        for value in no_entries() + [(2, 0), (0, True), (0,)]:
            self.refuses(Refused, 0, turning_change, SUMS, never, value, value)
            self.refuses(InvalidState, 0, turning_change, SQUARE, never, value, value)
            self.refuses(InvalidState, 1, turning_change, SQUARE, never, (0, 1), value)
        self.refuses(Refused, 0, turning_change, SUMS, never, (0, 2), (0, 2))

    def test_an_error_of_asking_is_passed_on(self):
        with self.assertRaises(RuntimeError):
            turning_change(SQUARE, never, (0, 0), (1, 1))

    def test_at_the_limits(self):
        chance = random.Random(56)
        for store in joined_limit_stores():
            for question in list(some_questions(store))[1:]:
                told = reference.answers(store, question)
                pairs = [(store.states[0], store.states[-1])] + [chance.sample(store.states, 2) for _ in range(6)]
                for one, other in pairs:
                    if told[one] != told[other]:
                        self.check(store, question, one, other)

    def test_a_long_chain(self):
        stairs = [store for store in joined_limit_stores() if len(store.states) == 57][0]
        for turn in range(1, 57):
            ask = Asked(stairs, [int(place >= turn) for place in range(57)])
            found = turning_change(stairs, ask, stairs.states[0], stairs.states[-1])
            self.same(found, stairs.states[turn - 1:turn + 1])
            self.assertLessEqual(len(ask.states), 2 + 6)


if __name__ == "__main__":
    unittest.main()
