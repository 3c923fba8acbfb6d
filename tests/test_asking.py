"""Point [41]: asking on."""

import itertools
import random
import unittest

from bothplans.asking import learned, must_ask, next_ask, shows
from bothplans.errors import InvalidQuestion, InvalidState, Refused
from bothplans.least import least_lots
from bothplans.stores import Store
from bothplans.told import open_keys, spare_keys, sure_keys
from tests import reference
from tests.asked import NO_PAIRS, Asked, joined_limit_stores, joined_stores, some_told, tiny_stores
from tests.support import PlanCase, Unfriendly, full_store, no_entries, no_sequences, some_questions

SUMS = Store([3, 3], [(0, 2), (1, 1), (2, 0)])
SQUARE = full_store(2, 2)
ONE = Store([2, 3], [(1, 2)])


def never(state):
    raise RuntimeError("asked")


def neighbour_in(store, keys):
    """The states with a neighbour that differs from them in one of some keys."""
    found = set()
    for one, other in reference.pairs(store):
        apart = reference.apart(one, other)
        if len(apart) == 1 and apart[0] in keys:
            found |= {one, other}
    return sorted(found)


class NextAskTest(PlanCase):
    def test_examples(self):
        some = [((0, 0), 4), ((1, 0), 5), ((0, 1), 4)]
        self.same(next_ask(SQUARE, some), (1, 1))
        self.same(next_ask(told=(), store=SQUARE), (0, 0))
        self.same(next_ask(SQUARE, some + [((1, 1), 5)]), None)
        self.same(next_ask(ONE, []), None)

    def test_the_first_such_state(self):
        chance = random.Random(41)
        for store in joined_stores():
            for told in some_told(chance, store, 5):
                states = [state for state, _ in told]
                left = [state for state in neighbour_in(store, open_keys(store, told)) if state not in states]
                self.same(next_ask(store, told), left[0] if left else None)
                self.assertEqual(not left, open_keys(store, told) == ())

    def test_refusals(self):
        for value in no_sequences() + [[entry] for entry in no_entries() + NO_PAIRS]:
            self.refuses(Refused, 0, next_ask, SUMS, value)
            self.refuses(InvalidQuestion, 0, next_ask, SQUARE, value)
        self.refuses(InvalidQuestion, 1, next_ask, SQUARE, [((0, 1), 5), ((0, 1), 5)])


class LearnedTest(PlanCase):
    def test_examples(self):
        self.same(learned(SQUARE, lambda state: state[0] * state[1]),
                  ((0, 1), (((0, 0), 0), ((0, 1), 0), ((1, 0), 0), ((1, 1), 1))))
        self.same(learned(ask=lambda state: 7, store=ONE), ((), ()))

    def test_asked_one_by_one(self):
        for store in joined_stores():
            for question in some_questions(store):
                ask = Asked(store, question)
                lot, told = learned(store, ask)
                self.same(lot, least_lots(store, question)[0])
                self.same(told, tuple((state, ask.answers[state]) for state in ask.states))
                self.assertEqual(len(set(ask.states)), len(ask.states))
                for at in range(0, len(told) + 1, 3):
                    self.same(next_ask(store, told[:at]), ask.states[at] if at < len(told) else None)
                self.same(next_ask(store, told), None)

    def test_a_store_that_is_not_joined(self):
        self.refuses(Refused, 0, learned, SUMS, never)

    def test_at_the_limits(self):
        for store in joined_limit_stores():
            for question in list(some_questions(store))[::2]:
                ask = Asked(store, question)
                lot, told = learned(store, ask)
                self.same(lot, least_lots(store, question)[0])
                self.same(told, tuple((state, ask.answers[state]) for state in ask.states))
                self.assertEqual(len(set(ask.states)), len(ask.states))


class MustAskTest(PlanCase):
    def test_examples(self):
        self.same(must_ask(SQUARE, (7, 7, 4, 4)), ((0, 0), (0, 1), (1, 0), (1, 1)))
        self.same(must_ask(question=[0, 0, 0, 5], store=SQUARE), ())
        self.same(must_ask(ONE, [3]), ())
        self.same(must_ask(Store([3, 2], [(0, 0), (1, 0), (2, 0), (2, 1)]), (1, 1, 2, 2)), ((2, 0), (2, 1)))

    def test_neighbours_in_other_keys(self):
        for store in joined_stores():
            for question in some_questions(store):
                lot = least_lots(store, question)[0]
                others = [key for key in range(store.key_count) if key not in lot]
                self.same(must_ask(store, question), tuple(neighbour_in(store, others)))

    def test_refusals(self):
        for value in no_entries() + [(1, 2, 3), (1, 2, 3, True), (1, 2, 3, 4, 5)]:
            self.refuses(Refused, 0, must_ask, SUMS, value)
            self.refuses(InvalidQuestion, 0, must_ask, SQUARE, value)

    def test_where_all_rows_are_allowed(self):
        for store in (full_store(2, 3), full_store(3, 1, 2), full_store(2, 2, 2)):
            for question in some_questions(store):
                spare = [key for key in range(store.key_count)
                         if key not in least_lots(store, question)[0] and store.sizes[key] > 1]
                self.same(must_ask(store, question), store.states if spare else ())

    def test_at_the_limits(self):
        for store in joined_limit_stores():
            for question in some_questions(store):
                lot = least_lots(store, question)[0]
                others = [key for key in range(8) if key not in lot]
                self.same(must_ask(store, question), tuple(neighbour_in(store, others)))


class ShowsTest(PlanCase):
    def test_examples(self):
        self.same(shows(SQUARE, (0, 0, 0, 5), [(1, 1), (1, 0), (0, 1)]), True)
        self.same(shows(states=((1, 1), [1, 0]), question=[0, 0, 0, 5], store=SQUARE), False)
        self.same(shows(SQUARE, (0, 0, 0, 5), []), False)
        self.same(shows(ONE, [4], ()), True)

    def test_by_all_questions_with_these_answers(self):
        for store, count in tiny_stores():
            if len(store.states) > 4:
                continue
            questions = [(question, least_lots(store, question)[0])
                         for question in itertools.product(range(count), repeat=len(store.states))]
            for question, lot in questions[::7]:
                told = reference.answers(store, question)
                for size in range(len(store.states) + 1):
                    for states in itertools.combinations(store.states, size):
                        places = [store.states.index(state) for state in states]
                        lots = {other for fits, other in questions
                                if all(fits[place] == question[place] for place in places)}
                        self.same(shows(store, question, states), len(lots) == 1)
                        self.same(shows(store, question, [list(state) for state in states[::-1] + states]), len(lots) == 1)
                        if len(lots) == 1:
                            self.assertLessEqual(set(must_ask(store, question)), set(states))
                            self.assertTrue(all(any(
                                one in states and other in states and told[one] != told[other]
                                for one, other in reference.turning_pairs(store, question, key)) for key in lot))

    def test_if_no_key_is_open(self):
        chance = random.Random(4)
        for store in joined_stores():
            for question in some_questions(store):
                told = dict(zip(store.states, question))
                must = list(must_ask(store, question))
                for states in (must, store.states, chance.sample(store.states, len(store.states) // 2),
                               must + chance.choices(store.states, k=4)):
                    answers = [(state, told[state]) for state in sorted(set(states))]
                    self.same(shows(store, question, states), open_keys(store, answers) == ())
                    keys = sorted(sure_keys(store, answers) + spare_keys(store, answers))
                    self.same(shows(store, question, states), keys == list(range(store.key_count)))

    def test_refusals(self):
        for value in no_sequences():
            self.refuses(InvalidState, 0, shows, SQUARE, (0, 0, 0, 5), value)
        for entry in no_entries() + [(0, 2), (0,), (0, 0, 0), (0, True), (0.0, 0), [0, Unfriendly()]]:
            self.refuses(Refused, 0, shows, SUMS, entry, entry)
            self.refuses(InvalidQuestion, 0, shows, SQUARE, entry, entry)
            self.refuses(InvalidState, 2, shows, SQUARE, (0, 0, 0, 5), [(0, 1), [0, 1], entry, None])
        self.refuses(InvalidQuestion, 0, shows, SQUARE, (1, 2, 3), [None])

    def test_at_the_limits(self):
        for store in joined_limit_stores():
            for question in list(some_questions(store))[::2]:
                self.same(shows(store, question, store.states), True)
                _, told = learned(store, Asked(store, question))
                states = [state for state, _ in told]
                self.same(shows(store, question, states + states), True)
                must = must_ask(store, question)
                if must:
                    self.same(shows(store, question, [state for state in store.states if state != must[0]]), False)


if __name__ == "__main__":
    unittest.main()
