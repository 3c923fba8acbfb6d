"""Joined stores to ask in, and functions that note what they are asked."""

from bothplans.chains import is_joined
from bothplans.stores import Store
from tests.support import all_rows, limit_stores, small_stores


class Asked:
    """Answers a question, and notes for which states it is asked."""

    def __init__(self, store, question):
        self.answers = dict(zip(store.states, question))
        self.states = []

    def __call__(self, state):
        if type(state) is not tuple or state not in self.answers:
            raise RuntimeError("asked for what is no state")
        self.states.append(state)
        return self.answers[state]


def joined_stores():
    """Many small joined stores."""
    for store in small_stores():
        if is_joined(store):
            yield store


def joined_limit_stores():
    """Joined stores at the limits."""
    for store in limit_stores():
        if is_joined(store):
            yield store
    # Stairs: from the first to the last state 56 changes are needed.
    steps = [tuple((count + 7 - key) // 8 for key in range(8)) for count in range(57)]
    yield Store([8] * 8, steps)
    rows = [row for row in all_rows([2] * 8) if all(one >= other for one, other in zip(row, row[1:]))]
    yield Store([2] * 8, rows)


def some_told(chance, store, count):
    """Told answers in some states, in any order: each with few answers, so that many are alike."""
    yield []
    yield [(state, 1) for state in store.states]
    for _ in range(count):
        states = chance.sample(store.states, chance.randrange(len(store.states) + 1))
        yield [(state, chance.choice((0, 0, 1))) for state in states]


def changes_within(steps):
    """The least k with 2 ** k not less than a number of changes."""
    k = 0
    while 2 ** k < steps:
        k += 1
    return k
