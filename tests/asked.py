"""Joined stores to ask in, functions that note what they are asked, and told answers."""

from bothplans.chains import is_joined
from bothplans.stores import Store
from tests.support import Unfriendly, all_rows, full_store, limit_stores, small_stores

# Entries that are no pairs of an allowed state and a number.
NO_PAIRS = [
    (), ((0, 0),), ((0, 0), 1, 2), [(0, 0), 1], ((0, 0), True), ((0, 0), -1), ((0, 0), 1.0), ((0, 0), None), ((0, 0), "1"),
    ((0, 2), 1), ((0,), 1), ((0, 0, 0), 1), ((0, False), 1), ((True, 0), 1), ((0.0, 0), 1), (0, 1), (None, 1), (1, (0, 0)),
    ("00", 1), ((0, Unfriendly()), 1), (Unfriendly(), 1), ((0, 0), Unfriendly()), {(0, 0): 1}, "ab",
]


class Asked:
    """Answers a question, and notes for which states it is asked."""

    def __init__(self, store, question):
        self.answers = dict(zip(store.states, question))
        self.states = []

    def __call__(self, state):
        if type(state) is not tuple or state not in self.answers:
            raise RuntimeError("asked for what is no state")
        self.states.append(state)
        return self.answers[state]


def joined_stores():
    """Many small joined stores."""
    for store in small_stores():
        if is_joined(store):
            yield store


def joined_limit_stores():
    """Joined stores at the limits."""
    for store in limit_stores():
        if is_joined(store):
            yield store
    # Stairs: from the first to the last state 56 changes are needed.
    steps = [tuple((count + 7 - key) // 8 for key in range(8)) for count in range(57)]
    yield Store([8] * 8, steps)
    rows = [row for row in all_rows([2] * 8) if all(one >= other for one, other in zip(row, row[1:]))]
    yield Store([2] * 8, rows)


def tiny_stores():
    """Joined stores, with enough answers that each way in which a question can fit occurs with them."""
    yield Store([1], [[0]]), 3
    yield Store([2, 3], [(1, 2)]), 3
    yield Store([3], [[0], [2]]), 4
    yield Store([2, 3], [(0, 1), (1, 1)]), 4
    yield Store([4, 2], [(0, 0), (1, 0), (3, 0), (3, 1)]), 5
    yield full_store(2, 2), 5
    yield Store([2, 2, 2], [(0, 0, 0), (0, 0, 1), (0, 1, 1), (1, 1, 1)]), 4
    yield Store([3, 2], [(0, 0), (2, 0), (2, 1), (1, 1)]), 4
    yield Store([3, 2], [(0, 0), (0, 1), (1, 0), (1, 1), (2, 0)]), 4
    yield Store([2, 2, 2], [(0, 0, 0), (0, 0, 1), (0, 1, 0), (1, 0, 0), (1, 0, 1)]), 4


def some_told(chance, store, count):
    """Told answers in some states, in any order: each with few answers, so that many are alike."""
    yield []
    yield [(state, 1) for state in store.states]
    for _ in range(count):
        states = chance.sample(store.states, chance.randrange(len(store.states) + 1))
        yield [(state, chance.choice((0, 0, 1))) for state in states]


def changes_within(steps):
    """The least k with 2 ** k not less than a number of changes."""
    k = 0
    while 2 ** k < steps:
        k += 1
    return k
