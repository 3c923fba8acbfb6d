"""Point [46]: what is told of answers."""

import itertools
import random
import unittest

from bothplans.errors import InvalidLot, InvalidQuestion, Refused
from bothplans.sayings import asks_left, sure_answers
from bothplans.stores import Store
from tests import reference
from tests.asked import NO_PAIRS
from tests.plans import alike, check_lots_refused, some_lots
from tests.support import PlanCase, as_lists, full_store, limit_stores, no_entries, no_numbers, no_sequences, small_stores

SUMS = Store([3, 3], [(0, 2), (1, 1), (2, 0)])
SQUARE = full_store(2, 2)
ONE = Store([2, 3], [(1, 2)])


def some_known(chance, store):
    yield []
    yield [(state, 7) for state in store.states]
    for count in (1, 2, 3, 6):
        yield [(chance.choice(store.states), chance.choice((0, 0, 0, 10 ** 40))) for _ in range(count)]


def clash(classes, known):
    """The index of the first known answer that is unlike one before, of a state that is surely alike; or None."""
    number = {state: at for at, states in enumerate(classes) for state in states}
    for at, (state, answer) in enumerate(known):
        if any(number[before] == number[state] and told != answer for before, told in known[:at]):
            return at
    return None


class SayingsTest(PlanCase):
    def test_examples(self):
        self.same(sure_answers(SQUARE, [(0,)], [((1, 1), 7)]), (None, None, 7, 7))
        self.same(asks_left(SQUARE, [(0,)], [((1, 1), 7)]), ((0, 0),))
        self.same(sure_answers(known=(([1, 1], 7), ((0, 1), 0)), lots=[[0]], store=SQUARE), (0, 0, 7, 7))
        self.same(asks_left(known=(([1, 1], 7), ((0, 1), 0)), lots=[[0]], store=SQUARE), ())

    def test_by_classes(self):
        chance = random.Random(46)
        for store in small_stores():
            for lots in list(some_lots(store, 9))[::2]:
                classes = alike(store, lots)
                for known in some_known(chance, store):
                    at = clash(classes, known)
                    if at is not None:
                        self.refuses(Refused, at, sure_answers, store, lots, known)
                        self.refuses(Refused, at, asks_left, store, lots, known)
                        continue
                    told = dict(known)
                    answers = {}
                    for states in classes:
                        seen = {told[state] for state in states if state in told}
                        answers.update({state: min(seen, default=None) for state in states})
                    self.same(sure_answers(store, lots, known), tuple(answers[state] for state in store.states))
                    left = tuple(states[0] for states in classes if answers[states[0]] is None)
                    self.same(asks_left(store, as_lists(lots), known), left)

    def test_by_all_questions(self):
        chance = random.Random(47)
        for store in (SQUARE, SUMS, ONE, Store([2, 2], [(0, 1), (1, 0)]), Store([3, 2], [(0, 0), (1, 0), (2, 1), (2, 0)])):
            count = len(store.states)
            questions = list(itertools.product(range(count + 1), repeat=count))
            for lots in some_lots(store, 10):
                fits = [question for question in questions if all(reference.tells(store, question, lot) for lot in lots)]
                for known in [[(chance.choice(store.states), chance.randrange(2)) for _ in range(size)] for size in (0, 1, 2, 3)]:
                    right = [question for question in fits
                             if all(question[store.states.index(state)] == answer for state, answer in known)]
                    if not right:
                        at = min(at for at in range(len(known)) if not any(
                            all(question[store.states.index(state)] == answer for state, answer in known[:at + 1])
                            for question in fits))
                        self.refuses(Refused, at, sure_answers, store, lots, known)
                        continue
                    seen = [{question[place] for question in right} for place in range(count)]
                    self.same(sure_answers(store, lots, known),
                              tuple(min(answers) if len(answers) == 1 else None for answers in seen))

    def test_asking_for_these_tells_all(self):
        chance = random.Random(48)
        for store in small_stores():
            for lots in list(some_lots(store, 11))[1::3]:
                question = {state: at * 5 for at, states in enumerate(alike(store, lots)) for state in states}
                known = [(state, question[state]) for state in chance.sample(store.states, len(store.states) // 3)]
                left = [(state, question[state]) for state in asks_left(store, lots, known)]
                self.same(sure_answers(store, lots, known + left), tuple(question[state] for state in store.states))
                self.same(asks_left(store, lots, known + left), ())
                if left:
                    self.assertIn(None, sure_answers(store, lots, known + left[1:]))

    def test_known_twice(self):
        self.same(sure_answers(SQUARE, [], [((0, 1), 7), ([0, 1], 7)]), (None, 7, None, None))
        self.same(asks_left(SQUARE, [], (((0, 1), 7), ([0, 1], 7))), ((0, 0), (1, 0), (1, 1)))
        for function in (sure_answers, asks_left):
            self.refuses(Refused, 1, function, SQUARE, [], [((0, 1), 7), ([0, 1], 8)])
            self.refuses(Refused, 3, function, SQUARE, [[1]], [((0, 1), 7), ((0, 0), 8), ((1, 1), 7), ((1, 0), 7), ((1, 1), 8)])

    def test_refused_behind_all_else(self):
        contrary = [((0, 1), 7), ((0, 1), 8)]
        for function in (sure_answers, asks_left):
            self.refuses(InvalidQuestion, 2, function, SQUARE, [], contrary + [None])
            self.refuses(InvalidQuestion, 3, function, SQUARE, [], contrary + [((0, 0), 1), ((0, 2), 1)])
            self.refuses(InvalidLot, 1, function, SQUARE, [[], [2]], contrary)

    def test_what_is_not_known_answers(self):
        for function in (sure_answers, asks_left):
            check_lots_refused(self, function, None)
            check_lots_refused(self, function, [None])
            for value in no_sequences():
                self.refuses(InvalidQuestion, 0, function, SQUARE, [], value)
            for entry in no_entries() + NO_PAIRS:
                self.refuses(InvalidQuestion, 0, function, SQUARE, [[0]], [entry])
                self.refuses(InvalidQuestion, 2, function, SQUARE, [[0]], (((0, 1), 7), ((0, 0), 7), entry, entry))
            for number in no_numbers():
                self.refuses(InvalidQuestion, 1, function, SQUARE, [[0]], (((0, 1), 7), ((1, 1), number)))

    def test_at_the_limits(self):
        for store in limit_stores():
            for lots in list(some_lots(store, 12))[2:]:
                question = {state: at for at, states in enumerate(alike_quickly(store, lots)) for state in states}
                left = asks_left(store, lots, [])
                self.assertEqual(len(left), len(set(question.values())))
                known = [(state, question[state]) for state in left]
                self.same(sure_answers(store, lots, known), tuple(question[state] for state in store.states))
                self.same(sure_answers(store, lots, []), (None,) * len(store.states))
                self.same(asks_left(store, lots, known[1:]), left[:1])
                self.refuses(Refused, len(known), sure_answers, store, lots, known + [(known[0][0], 10 ** 30)])


def alike_quickly(store, lots):
    """The classes, for many states: what stands together by views, again and again."""
    group = {state: {state} for state in store.states}
    for lot in lots:
        seen = {}
        for state in store.states:
            first = seen.setdefault(tuple(state[key] for key in lot), state)
            if group[first] is not group[state]:
                group[first] |= group[state]
                for other in group[state]:
                    group[other] = group[first]
    return sorted({tuple(sorted(states)) for states in group.values()})


if __name__ == "__main__":
    unittest.main()
