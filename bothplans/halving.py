"""Changes that turn an answer, found by halving chains."""

from bothplans.answers import asked_once, check_joined
from bothplans.chains import chain
from bothplans.errors import Refused
from bothplans.stores import checked_states


def turning_change(store, ask, one, other):
    """Some neighbours, one behind the other in a chain, with unlike answers; Refused(1) if the ends have one answer."""
    check_joined(store)
    first, last = checked_states(store, one, other)
    told = {}
    if asked_once(ask, told, first) == asked_once(ask, told, last):
        raise Refused(1)
    return turn_between(store, ask, told, first, last)


def turn_between(store, ask, told, one, other):
    """Some neighbours with unlike answers in a shortest chain between two states that are told to have such.

    What is asked for is added to what is told.
    """
    steps = chain(store, one, other)
    low, high = 0, len(steps) - 1
    while high - low > 1:
        middle = (low + high) // 2
        if asked_once(ask, told, steps[middle]) == told[one]:
            low = middle
        else:
            high = middle
    return steps[low], steps[high]
