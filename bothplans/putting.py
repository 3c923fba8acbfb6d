"""Stores put together from two stores that have some keys in common."""

from bothplans.errors import InvalidLot, Refused
from bothplans.kinds import is_sequence
from bothplans.stores import Store, is_key, keys_outside, view


def put_together(one, other, pairs):
    """The store of all keys of two stores, where the two keys of each pair are one and the same."""
    _check_pairs(one, other, pairs)
    shared = [first for first, _ in pairs]
    joined = [second for _, second in pairs]
    added = keys_outside(other, joined)
    endings = {}
    for state in other.states:
        endings.setdefault(view(state, joined), []).append(view(state, added))
    states = [state + ending for state in one.states for ending in endings.get(view(state, shared), [])]
    if not states:
        raise Refused(0)
    return Store(one.sizes + view(other.sizes, added), states)


def _check_pairs(one, other, pairs):
    """InvalidLot with the index of the first entry that is no such pair, or has a key of an earlier one."""
    if not is_sequence(pairs):
        raise InvalidLot(0)
    for at, pair in enumerate(pairs):
        if not _is_key_pair(one, other, pair):
            raise InvalidLot(at)
        for first, second in pairs[:at]:
            if first == pair[0] or second == pair[1]:
                raise InvalidLot(at)


def _is_key_pair(one, other, value):
    if not isinstance(value, tuple) or len(value) != 2:
        return False
    first, second = value
    return is_key(one, first) and is_key(other, second) and one.sizes[first] == other.sizes[second]
