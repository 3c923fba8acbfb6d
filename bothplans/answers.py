"""Answers that are told in some states, and what neighbours with told answers show of a question to a joined store."""

from bothplans.chains import is_joined
from bothplans.errors import InvalidQuestion, InvalidState, Refused
from bothplans.groups import key_groups
from bothplans.kinds import is_number, is_sequence
from bothplans.stores import is_allowed, states_at


def check_joined(store):
    """Refused(0) for a store that is not joined."""
    if not is_joined(store):
        raise Refused(0)


def is_told_answer(store, value):
    """Whether any value is a pair of an allowed state and a number."""
    if not isinstance(value, tuple) or len(value) != 2:
        return False
    state, told = value
    return is_allowed(store, state) and is_number(told)


def checked_told(store, value):
    """Any value as told answers, a dict; InvalidQuestion with the index of the first entry that does not fit."""
    if not is_sequence(value):
        raise InvalidQuestion(0)
    told = {}
    for at, entry in enumerate(value):
        if not is_told_answer(store, entry) or tuple(entry[0]) in told:
            raise InvalidQuestion(at)
        told[tuple(entry[0])] = entry[1]
    return told


def checked_state_row(store, value):
    """Any sequence of states as a list; InvalidState with the index of the first entry that is none."""
    if not is_sequence(value):
        raise InvalidState(0)
    for at, entry in enumerate(value):
        if not is_allowed(store, entry):
            raise InvalidState(at)
    return [tuple(entry) for entry in value]


def asked_once(ask, told, state):
    """The answer in a state, which is asked for only if it is not told yet, and then is."""
    if state not in told:
        told[state] = ask(state)
    return told[state]


def groups_by_key(store):
    """For each key groups of states, two or more in each: any two of a group are neighbours that differ in this key."""
    return [[states_at(store, group) for group in key_groups(store, key)] for key in range(store.key_count)]


def turned_keys(groups, told):
    """The keys in which two told neighbours with unlike answers differ; groups are those of each key."""
    return tuple([key for key, some in enumerate(groups) if any([_has_unlike(told, group) for group in some])])


def _has_unlike(told, group):
    seen = [told[state] for state in group if state in told]
    return any([entry != seen[0] for entry in seen])


def unseen_keys(groups, told):
    """The keys in which a state differs from a neighbour, one of which is not told; groups are those of each key."""
    return tuple([key for key, some in enumerate(groups) if any([_has_untold(told, group) for group in some])])


def _has_untold(told, group):
    return any([state not in told for state in group])


def unknown_keys(groups, told):
    """The keys that are open: not turned by what is told, but not all seen either."""
    turned = turned_keys(groups, told)
    return tuple([key for key in unseen_keys(groups, told) if key not in turned])
