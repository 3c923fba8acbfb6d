"""Rows of allowed states, each step of which changes only keys of one of some lots."""

from bothplans.masks import differing_mask, is_within, mask_of
from bothplans.stores import is_state, keys_outside, view


def shortest_walk(store, lots, one, other):
    """Some such row from one state to another one with as few states as any; None if there is none."""
    tables = [_states_by_view(store, keys_outside(store, lot)) for lot in lots]
    outsides = [keys_outside(store, lot) for lot in lots]
    before = {one: one}
    layer = [one]
    while layer and other not in before:
        layer = _next_layer(tables, outsides, before, layer)
    if other not in before:
        return None
    return _way_back(before, one, other)


def _states_by_view(store, lot):
    table = {}
    for state in store.states:
        table.setdefault(view(state, lot), []).append(state)
    return table


def _next_layer(tables, outsides, before, layer):
    """The states one step behind a layer that were not reached before, which are noted with the state before."""
    found = []
    for state in layer:
        for table, outside in zip(tables, outsides):
            for after in table[view(state, outside)]:
                if after not in before:
                    before[after] = state
                    found.append(after)
    return found


def _way_back(before, one, other):
    walk = [other]
    while walk[-1] != one:
        walk.append(before[walk[-1]])
    return tuple(walk[::-1])


def is_walk(store, lots, one, other, value):
    """Whether any value is such a row from one state to another one, no state of which stands twice running."""
    if not isinstance(value, tuple) or not all([is_state(store, state) for state in value]):
        return False
    if len(value) == 0 or value[0] != one or value[-1] != other:
        return False
    masks = [mask_of(lot) for lot in lots]
    return all([_is_step(masks, value[at - 1], value[at]) for at in range(1, len(value))])


def _is_step(masks, one, other):
    changed = differing_mask(one, other)
    return changed != 0 and any([is_within(changed, mask) for mask in masks])
