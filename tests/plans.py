"""Lots of plans as may be told, what they surely tell, and what is refused for such."""

import random

from bothplans.errors import InvalidLot
from tests import reference
from tests.support import Unfriendly, endless_list, full_store, no_numbers, no_sequences

SQUARE = full_store(2, 2)


def some_lots(store, seed=0):
    """Lots as may be told: none, the empty one, all keys, each single key, equal ones, any ones."""
    chance = random.Random(seed * 100 + len(store.states))
    every = reference.lots(store.key_count)
    yield []
    yield [()]
    yield [tuple(range(store.key_count))]
    yield [(key,) for key in range(store.key_count)]
    for count in (1, 2, 2, 3, 4):
        lots = chance.choices(every, k=count)
        yield lots + lots[:chance.randrange(2)]


def ways(store, lots, start):
    """How many states a way from a state to each one has that has some."""
    steps = reference.reached(store, start, lambda one, other: any(reference.agree(one, other, lot) for lot in lots))
    return {state: count + 1 for state, count in steps.items()}


def alike(store, lots):
    """The classes, by what leads from state to state."""
    return tuple(sorted({tuple(sorted(ways(store, lots, state))) for state in store.states}))


def check_lots_refused(case, function, *more):
    """What is no lots is refused, whatever else is wrong."""
    for value in no_sequences():
        case.refuses(InvalidLot, 0, function, SQUARE, value, *more)
    wrong = no_sequences() + [(number,) for number in no_numbers()]
    wrong += [(2,), [0, 0], (0, 1, 0), [0, True], (1, False), [(0,)], [0, Unfriendly()], endless_list()]
    for entry in wrong:
        case.refuses(InvalidLot, 0, function, SQUARE, [entry, [0]], *more)
        case.refuses(InvalidLot, 2, function, SQUARE, ([1, 0], (), entry, [5]), *more)
