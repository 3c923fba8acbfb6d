"""Slices: the states that have given values on some keys, as stores of the other keys."""

from bothplans.errors import InvalidState, Refused
from bothplans.islands import islands, roots_by_mask
from bothplans.kinds import is_row
from bothplans.masks import lots_of, mask_of
from bothplans.stores import Store, checked_lot, keys_outside, view, views


def slice_of(store, lot, values):
    """The store of the other keys, with what the states that have these values on the lot have on those."""
    keys = checked_lot(store, lot)
    others = keys_outside(store, keys)
    if not others:
        raise Refused(0)
    if not is_row(values, view(store.sizes, keys)):
        raise InvalidState(0)
    wanted = tuple(values)
    states = [view(state, others) for state in store.states if view(state, keys) == wanted]
    if not states:
        raise Refused(1)
    return Store(view(store.sizes, others), states)


def is_in_one_piece(store):
    """Whether neighbours lead from each state to each other one, whatever keys they change."""
    return len(islands(store, list(range(store.key_count)))) == 1


def broken_slice(store):
    """The first lot and values on it whose slice is not in one piece, as a pair; None if there are none."""
    tables = roots_by_mask(store)
    everything = (1 << store.key_count) - 1
    for lot in lots_of(list(range(everything))):
        # The slice is in one piece if its states are on one island of the other keys.
        values = _first_broken(views(store, lot), tables[everything ^ mask_of(lot)])
        if values is not None:
            return lot, values
    return None


def _first_broken(seen, roots):
    """The first of some views that stands beside unlike roots, or None."""
    firsts = {}
    broken = [values for values, root in zip(seen, roots) if firsts.setdefault(values, root) != root]
    return min(broken, default=None)
