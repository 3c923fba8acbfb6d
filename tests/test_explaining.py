"""Point [42]: keys that explain told answers."""

import random
import unittest

from bothplans.errors import InvalidState, Refused
from bothplans.explaining import explained
from bothplans.least import least_lots
from bothplans.stores import Store
from bothplans.told import sure_keys
from tests import reference
from tests.asked import Asked, changes_within, joined_limit_stores, joined_stores
from tests.support import PlanCase, Unfriendly, full_store, no_entries, no_sequences, some_questions

SUMS = Store([3, 3], [(0, 2), (1, 1), (2, 0)])
SQUARE = full_store(2, 2)


def never(state):
    raise RuntimeError("asked")


def longest(store):
    """The most changes that a shortest chain has."""
    return max([reference.chain_length(store, one, other) - 1 for one, other in reference.pairs(store)], default=0)


class ExplainedTest(PlanCase):
    def check(self, store, question, states, most):
        ask = Asked(store, question)
        lot, told = explained(store, ask, states)
        self.same(told, tuple((state, ask.answers[state]) for state in ask.states))
        first = list(dict.fromkeys(map(tuple, states)))
        self.assertEqual(ask.states[:len(first)], first)
        self.assertEqual(len(set(ask.states)), len(ask.states))
        self.same(lot, sure_keys(store, told))
        self.assertLessEqual(set(lot), set(least_lots(store, question)[0]))
        seen = {}
        for state, answer in told:
            self.assertEqual(seen.setdefault(tuple(state[key] for key in lot), answer), answer)
        self.assertLessEqual(len(ask.states), len(first) + len(lot) * changes_within(most))
        return lot, ask

    def test_examples(self):
        self.same(explained(SQUARE, lambda state: state[1], [(0, 0), (1, 0), (0, 1)]),
                  ((1,), (((0, 0), 0), ((1, 0), 0), ((0, 1), 1))))
        self.same(explained(states=([1, 1],), ask=lambda state: 8, store=SQUARE), ((), (((1, 1), 8),)))

    def test_many_stores(self):
        chance = random.Random(42)
        for store in joined_stores():
            most = longest(store)
            for question in some_questions(store):
                for count in (1, 2, len(store.states) // 2, len(store.states)):
                    states = [chance.choice((list, tuple))(chance.choice(store.states)) for _ in range(count)]
                    self.check(store, question, states, most)
                lot, _ = self.check(store, question, store.states, most)
                self.same(lot, least_lots(store, question)[0])

    def test_no_states(self):
        self.same(explained(SQUARE, never, []), ((), ()))
        self.same(explained(SQUARE, never, ()), ((), ()))

    def test_states_told_twice_are_asked_for_once(self):
        ask = Asked(SQUARE, (4, 4, 5, 5))
        self.same(explained(SQUARE, ask, [[1, 0], (0, 0), (1, 0), [0, 0], (0, 0)]),
                  ((0,), (((1, 0), 5), ((0, 0), 4))))
        self.assertEqual(ask.states, [(1, 0), (0, 0)])

    def test_what_was_asked_is_not_asked_again(self):
        # All is told already: so no chain asks for anything.
        for store in joined_stores():
            for question in some_questions(store):
                ask = Asked(store, question)
                explained(store, ask, store.states)
                self.assertEqual(ask.states, list(store.states))

    def test_nothing_to_explain(self):
        ask = Asked(SQUARE, (4, 5, 5, 4))
        self.same(explained(SQUARE, ask, [(0, 0), (1, 1)]), ((), (((0, 0), 4), ((1, 1), 4))))

    def test_the_first_thing_that_is_wrong(self):
        for value in no_sequences():
            self.refuses(Refused, 0, explained, SUMS, never, value)
            self.refuses(InvalidState, 0, explained, SQUARE, never, value)
        for entry in no_entries() + [(0, 2), (0,), (0, 0, 0), (0, True), (0.0, 0), [0, Unfriendly()]]:
            self.refuses(InvalidState, 2, explained, SQUARE, never, [(0, 1), [0, 1], entry, entry])

    def test_at_the_limits(self):
        chance = random.Random(6)
        for store in joined_limit_stores():
            # Some store has long chains: none has more changes than there are other states.
            most = 56 if len(store.states) == 57 else len(store.states) - 1
            for question in list(some_questions(store))[::2]:
                self.check(store, question, chance.sample(store.states, 2), most)
                self.check(store, question, chance.sample(store.states, min(40, len(store.states))), most)
                self.check(store, question, store.states, most)
                self.check(store, question, (store.states[-1], store.states[0]), most)


if __name__ == "__main__":
    unittest.main()
