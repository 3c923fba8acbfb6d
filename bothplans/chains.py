"""Chains of neighbours, and the stores that are joined by them."""

from bothplans.islands import roots_by_mask
from bothplans.masks import differing_mask
from bothplans.stores import checked_states, differing
from bothplans.walks import is_walk, shortest_walk


def chain(store, one, other):
    """Some chain from one state to another one with the fewest states; None if there is none."""
    first, last = checked_states(store, one, other)
    return shortest_walk(store, _single_keys(first, last), first, last)


def is_chain(store, one, other, value):
    """Whether any value is a chain from one state to another one."""
    first, last = checked_states(store, one, other)
    return is_walk(store, _single_keys(first, last), first, last, value)


def _single_keys(one, other):
    return [(key,) for key in differing(one, other)]


def is_joined(store):
    """Whether there is a chain from each state to each other one."""
    return unjoined(store) is None


def unjoined(store):
    """The first pair of states, the first less than the second, without a chain; None if there is none."""
    tables = roots_by_mask(store)
    for place, state in enumerate(store.states):
        for later in range(place + 1, len(store.states)):
            # There is a chain exactly if the two are on one island of the keys in which they differ.
            roots = tables[differing_mask(state, store.states[later])]
            if roots[place] != roots[later]:
                return state, store.states[later]
    return None
