"""Points [47] and [48]: caches."""

import random
import unittest

from bothplans.bundles import finest
from bothplans.cache import Cache
from bothplans.errors import InvalidLot, InvalidQuestion, InvalidState, PlanError, Refused
from bothplans.stores import Store
from bothplans.telling import tells
from tests import reference
from tests.support import (
    PlanCase, Unfriendly, full_store, limit_stores, no_entries, no_numbers, no_sequences, small_stores, some_questions,
)

SUMS = Store([3, 3], [(0, 2), (1, 1), (2, 0)])
SQUARE = full_store(2, 2)
PAIRS = Store([2, 2, 2], [(0, 0, 0), (0, 0, 1), (1, 1, 0), (1, 1, 1)])
EQUAL = Store([3, 3], [(0, 0), (1, 1), (2, 2)])


class Broken(Exception):
    pass


class Model:
    """A cache by the words of the points: it keeps all that it was, and does each deed anew."""

    def __init__(self, store, state):
        self.store, self.tying = store, finest(store)
        self.state, self.entries, self.count = state, {}, 0

    def copy(self):
        made = Model.__new__(Model)
        made.store, made.tying = self.store, self.tying
        made.state, made.entries, made.count = self.state, dict(self.entries), self.count
        return made

    def ask(self, question, plan):
        widened = {key for bundle in self.tying if set(bundle) & set(plan) for key in bundle}
        if question in self.entries:
            held, answer = self.entries[question]
            self.entries[question] = held & widened, answer
        else:
            self.entries[question] = widened, question[self.store.states.index(self.state)]
            self.count += 1
        return self.entries[question][1]

    def change(self, state):
        changed = set(reference.apart(self.state, state))
        self.entries = {question: entry for question, entry in self.entries.items() if not entry[0] & changed}
        self.state = state

    def kept(self):
        return tuple(sorted((question, tuple(sorted(held)), answer) for question, (held, answer) in self.entries.items()))


def looks(cache):
    return cache.state(), cache.kept(), cache.found(), len(cache)


def plans_for(store, question):
    return [lot for lot in reference.lots(store.key_count) if tells(store, question, lot)]


class CacheTest(PlanCase):
    def test_in_the_beginning(self):
        cache = Cache(SQUARE, [0, 1])
        self.assertIs(cache.store, SQUARE)
        self.assertIn("store", vars(cache))
        self.same(looks(cache), ((0, 1), (), 0, 0))
        self.same(cache.undo(), False)
        self.same(Cache(state=(1, 1), store=SQUARE).state(), (1, 1))

    def test_what_is_no_state(self):
        for value in no_entries() + [(0, 2), (0,), (0, 0, 0), (0, True), (0.0, 0), [0, Unfriendly()]]:
            self.refuses(InvalidState, 0, Cache, SQUARE, value)
            cache = Cache(SQUARE, (0, 1))
            cache.ask((1, 2, 3, 4), (0, 1))
            before = looks(cache)
            self.refuses(InvalidState, 0, cache.change, value)
            self.same(looks(cache), before)

    def test_asking_and_changing(self):
        cache = Cache(SQUARE, (0, 1))
        self.same(cache.ask([3, 3, 4, 4], [1, 0]), 3)
        self.same(looks(cache), ((0, 1), (((3, 3, 4, 4), (0, 1), 3),), 1, 1))
        self.same(cache.change((0, 0)), None)
        self.same(looks(cache), ((0, 0), (), 1, 2))
        self.same(cache.ask(plan=[0], question=(3, 3, 4, 4)), 3)
        self.same(looks(cache), ((0, 0), (((3, 3, 4, 4), (0,), 3),), 2, 3))
        self.same(cache.change(state=[0, 1]), None)
        self.same(looks(cache), ((0, 1), (((3, 3, 4, 4), (0,), 3),), 2, 4))
        self.same(cache.change([1, 1]), None)
        self.same(looks(cache), ((1, 1), (), 2, 5))

    def test_asked_again_with_another_plan(self):
        store = full_store(2, 2, 2)
        question = tuple(state[0] for state in store.states)
        cache = Cache(store, (1, 0, 0))
        self.same([cache.ask(question, plan) for plan in ((0, 1, 2), (0, 1), (0, 2), (1, 2, 0))], [1] * 4)
        self.same(cache.kept(), ((question, (0,), 1),))
        self.same((cache.found(), len(cache)), (1, 4))
        cache.change((1, 1, 1))
        self.same(cache.kept(), ((question, (0,), 1),))
        self.same([cache.undo() for _ in range(3)], [True] * 3)
        self.same(cache.kept(), ((question, (0, 1), 1),))

    def test_plans_are_widened_to_bundles(self):
        cache = Cache(PAIRS, (1, 1, 0))
        self.same(cache.ask((3, 3, 4, 4), [1]), 4)
        self.same(cache.kept(), (((3, 3, 4, 4), (0, 1), 4),))
        self.same(cache.ask((3, 3, 4, 4), [0, 2]), 4)
        self.same(cache.kept(), (((3, 3, 4, 4), (0, 1), 4),))
        cache.change((1, 1, 1))
        self.same(len(cache.kept()), 1)
        cache.change((0, 0, 1))
        self.same(cache.kept(), ())
        self.same(cache.ask((3, 3, 4, 4), [1, 2]), 3)
        self.same(cache.kept(), (((3, 3, 4, 4), (0, 1, 2), 3),))

    def test_without_widening_common_keys_might_not_tell(self):
        cache = Cache(EQUAL, (1, 1))
        self.same((cache.ask((5, 6, 7), [0]), cache.ask((5, 6, 7), [1])), (6, 6))
        self.same(cache.kept(), (((5, 6, 7), (0, 1), 6),))
        cache.change((2, 2))
        self.same(cache.ask((5, 6, 7), [1]), 7)

    def test_kept_is_ascending(self):
        cache = Cache(SQUARE, (0, 0))
        for question in ((4, 4, 4, 4), (0, 1, 2, 3), (0, 0, 9, 9), (10 ** 40, 0, 0, 0)):
            cache.ask(question, (0, 1))
        self.same([question for question, _, _ in cache.kept()],
                  [(0, 0, 9, 9), (0, 1, 2, 3), (4, 4, 4, 4), (10 ** 40, 0, 0, 0)])

    def test_the_empty_plan(self):
        cache = Cache(SQUARE, (0, 0))
        self.same(cache.ask((6, 6, 6, 6), ()), 6)
        self.same(cache.ask((6, 6, 6, 6), (0, 1)), 6)
        for state in SQUARE.states:
            cache.change(state)
        self.same((cache.kept(), cache.found()), ((((6, 6, 6, 6), (), 6),), 1))

    def test_refusals_change_nothing(self):
        cache = Cache(SUMS, (1, 1))
        cache.ask((1, 2, 3), [0])
        before = looks(cache)
        for value in no_sequences() + [(1, 2), (1, 2, True), (1, 2, -1), (1, 2, 3, 4)]:
            self.refuses(InvalidQuestion, 0, cache.ask, value, None)
            self.refuses(InvalidQuestion, 0, cache.ask, value, [0])
        for value in no_sequences():
            self.refuses(InvalidLot, 0, cache.ask, (1, 2, 3), value)
        for number in no_numbers() + [2, 1]:
            self.refuses(InvalidLot, 1, cache.ask, (1, 2, 3), [1, number])
        self.refuses(Refused, 1, cache.ask, (1, 2, 3), [])
        self.refuses(Refused, 1, cache.ask, (1, 1, 2), ())
        self.refuses(InvalidState, 0, cache.change, (0, 0))
        self.same(looks(cache), before)

    def test_deeds_that_alter_nothing_can_be_undone_too(self):
        cache = Cache(SQUARE, (0, 0))
        cache.change((0, 0))
        cache.ask((1, 2, 3, 4), (0, 1))
        cache.ask((1, 2, 3, 4), (0, 1))
        self.same(looks(cache), ((0, 0), (((1, 2, 3, 4), (0, 1), 1),), 1, 3))
        self.same([cache.undo() for _ in range(4)], [True, True, True, False])
        self.same(looks(cache), ((0, 0), (), 0, 0))

    def test_later_changes_of_what_was_passed(self):
        question, plan, state = [3, 3, 4, 4], [0], [0, 1]
        cache = Cache(SQUARE, state)
        cache.ask(question, plan)
        state[0], question[0] = 1, 9
        plan.append(1)
        self.same(looks(cache), ((0, 1), (((3, 3, 4, 4), (0,), 3),), 1, 1))
        after = [1, 1]
        cache.change(after)
        after[0] = 0
        self.same(cache.state(), (1, 1))

    def test_any_deeds(self):
        chance = random.Random(47)
        for store in list(small_stores())[::2]:
            questions = [(question, plans_for(store, question)) for question in some_questions(store)]
            start = chance.choice(store.states)
            cache, past = Cache(store, start), [Model(store, start)]
            for _ in range(40):
                deed = chance.random()
                if deed < 0.25:
                    self.same(cache.undo(), len(past) > 1)
                    past = past[:-1] or past
                elif deed < 0.5:
                    past.append(past[-1].copy())
                    state = chance.choice(store.states)
                    past[-1].change(state)
                    self.same(cache.change(state), None)
                else:
                    past.append(past[-1].copy())
                    question, plans = chance.choice(questions)
                    plan = chance.choice(plans)
                    answer = past[-1].ask(question, plan)
                    self.same(cache.ask(list(question), chance.sample(plan, len(plan))), answer)
                    # Kept answers are always right.
                    self.same(answer, question[store.states.index(cache.state())])
                now = past[-1]
                self.same(looks(cache), (now.state, now.kept(), now.count, len(past) - 1))
                for question, held, answer in cache.kept():
                    self.assertTrue(tells(store, question, held))
                    self.same(answer, question[store.states.index(cache.state())])

    def test_at_the_limits(self):
        chance = random.Random(48)
        for store in limit_stores():
            cache = Cache(store, store.states[0])
            questions = list(some_questions(store))
            everything = tuple(range(8))
            for _ in range(60):
                question = chance.choice(questions)
                plan = everything
                for key in chance.sample(everything, 8):
                    less = tuple(left for left in plan if left != key)
                    if chance.random() < 0.7 and tells(store, question, less):
                        plan = less
                self.same(cache.ask(question, plan), question[store.states.index(cache.state())])
                if chance.random() < 0.4:
                    cache.change(chance.choice(store.states))
            self.assertGreaterEqual(len(cache), 60)
            while cache.undo():
                pass
            self.same(looks(cache), (store.states[0], (), 0, 0))


class WithinTest(PlanCase):
    def setUp(self):
        self.cache = Cache(SQUARE, (0, 1))
        self.cache.ask((3, 3, 4, 4), (0,))
        self.cache.change((0, 0))
        self.before = looks(self.cache)

    def unchanged(self):
        self.same(looks(self.cache), self.before)
        self.same([self.cache.undo() for _ in range(3)], [True, True, False])
        self.same(looks(self.cache), ((0, 1), (), 0, 0))

    def test_work_that_returns(self):
        def work(cache):
            self.assertIs(cache, self.cache)
            self.same(len(cache), 2)
            cache.change((1, 1))
            cache.ask((1, 2, 3, 4), (0, 1))
            self.same(looks(cache), ((1, 1), (((1, 2, 3, 4), (0, 1), 4),), 2, 4))
            return [cache.found()]

        self.assertEqual(self.cache.within(work), [2])
        self.unchanged()

    def test_what_is_returned_is_the_very_thing(self):
        for value in (None, Unfriendly(), [], self.cache):
            self.assertIs(self.cache.within(work=lambda cache: value), value)
        self.unchanged()

    def test_work_that_raises(self):
        for error in (Broken("own"), ValueError("plain"), KeyboardInterrupt()):
            def work(cache):
                cache.change((1, 1))
                raise error

            with self.assertRaises(type(error)) as caught:
                self.cache.within(work)
            self.assertIs(caught.exception, error)
        with self.assertRaises(PlanError):
            self.cache.within(lambda cache: (cache.ask((1, 1, 2, 2), (0,)), cache.change((9, 9))))
        self.unchanged()

    def test_work_that_undoes_its_own_deeds(self):
        def work(cache):
            cache.change((1, 1))
            cache.change((1, 0))
            self.same(cache.undo(), True)
            self.same(looks(cache)[0], (1, 1))
            self.same(cache.undo(), True)
            self.same(looks(cache), self.before)
            cache.ask((9, 9, 9, 9), ())
            return cache.undo()

        self.same(self.cache.within(work), True)
        self.unchanged()

    def test_within_itself(self):
        def inner(cache):
            self.same(len(cache), 3)
            cache.ask((5, 5, 6, 6), (0, 1))
            return cache.state()

        def work(cache):
            cache.change((1, 0))
            now = looks(cache)
            told = cache.within(inner)
            self.same(looks(cache), now)
            with self.assertRaises(Broken):
                cache.within(failing)
            self.same(looks(cache), now)
            return told

        def failing(cache):
            cache.change((0, 1))
            raise Broken

        self.same(self.cache.within(work), (1, 0))
        self.unchanged()

    def test_within_nothing_done(self):
        cache = Cache(SQUARE, (0, 0))
        cache.within(lambda same: same.change((1, 1)))
        self.same(looks(cache), ((0, 0), (), 0, 0))
        self.same(cache.undo(), False)

    def test_deeds_behind_it(self):
        self.cache.within(lambda cache: cache.change((1, 1)))
        self.cache.change((0, 1))
        self.same(looks(self.cache), ((0, 1), self.before[1], 1, 3))
        self.cache.undo()
        self.unchanged()


if __name__ == "__main__":
    unittest.main()
