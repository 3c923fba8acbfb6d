"""Asking on, until it is known on which keys the answers rest."""

from bothplans.answers import (
    asked_once, check_joined, checked_state_row, checked_told, groups_by_key, turned_keys, unknown_keys,
)
from bothplans.questions import checked_question
from bothplans.stores import keys_outside, place_of
from bothplans.turnings import rests_on


def next_ask(store, told):
    """The first state not told with a neighbour that differs from it in an open key; None if no key is open."""
    check_joined(store)
    return _next_state(groups_by_key(store), checked_told(store, told))


def _next_state(groups, told):
    return min([state for state in _states_of(groups, unknown_keys(groups, told)) if state not in told], default=None)


def _states_of(groups, keys):
    """The states that have a neighbour that differs from them in one of some keys, some of them several times."""
    return [state for key in keys for group in groups[key] for state in group]


def learned(store, ask):
    """The least lot, and the told answers, when it is asked for the next state until no key is open."""
    check_joined(store)
    groups = groups_by_key(store)
    told = {}
    state = _next_state(groups, told)
    while state is not None:
        asked_once(ask, told, state)
        state = _next_state(groups, told)
    return turned_keys(groups, told), tuple(told.items())


def must_ask(store, question):
    """The states with a neighbour that differs from them in a key on which the answer does not rest."""
    lot = rests_on(store, question)
    return tuple(sorted(set(_states_of(groups_by_key(store), keys_outside(store, lot)))))


def shows(store, question, states):
    """Whether the answers in some states show on which keys the answer rests."""
    check_joined(store)
    asked = checked_question(store, question)
    told = {state: asked[place_of(store, state)] for state in checked_state_row(store, states)}
    return unknown_keys(groups_by_key(store), told) == ()
