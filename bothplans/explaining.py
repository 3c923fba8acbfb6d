"""Keys that explain told answers: states with one view on them were told to have one answer."""

from bothplans.answers import asked_once, check_joined, checked_state_row, groups_by_key, turned_keys
from bothplans.halving import turn_between
from bothplans.stores import view


def explained(store, ask, states):
    """The sure keys, when they explain what is told in some states, and the told answers, as they were asked."""
    check_joined(store)
    told = {}
    for state in checked_state_row(store, states):
        asked_once(ask, told, state)
    groups = groups_by_key(store)
    sure = turned_keys(groups, told)
    pair = _unexplained(told, sure)
    while pair is not None:
        # The chain changes no sure key: so the key of the turning change becomes one.
        turn_between(store, ask, told, *pair)
        sure = turned_keys(groups, told)
        pair = _unexplained(told, sure)
    return sure, tuple(told.items())


def _unexplained(told, lot):
    """Some two told states that agree on a lot, but have unlike answers; None if there are none."""
    firsts = {}
    for state, answer in told.items():
        first = firsts.setdefault(view(state, lot), state)
        if told[first] != answer:
            return first, state
    return None
