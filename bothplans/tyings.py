"""Tyings of the keys into bundles, and chains that change one bundle at a time."""

from bothplans.errors import InvalidLot
from bothplans.kinds import first_misfit, is_sequence
from bothplans.masks import is_within, mask_of
from bothplans.stores import checked_lot, checked_states, differing, is_lot
from bothplans.walks import is_walk, shortest_walk


def checked_tying(store, value):
    """Any value as a tying; InvalidLot with the index of the first entry that does not fit."""
    if not is_sequence(value):
        raise InvalidLot(0)
    tied = []
    for at, entry in enumerate(value):
        if not is_sequence(entry) or len(entry) == 0:
            raise InvalidLot(at)
        tied = tied + list(entry)
        if first_misfit(tied, store.key_count) is not None:
            raise InvalidLot(at)
    if len(tied) < store.key_count:
        raise InvalidLot(len(value))
    return tuple(sorted([tuple(sorted(entry)) for entry in value]))


def is_tying(store, value):
    """Whether any value is a tying, all in tuples."""
    if not isinstance(value, tuple) or not all([is_lot(store, entry) and len(entry) > 0 for entry in value]):
        return False
    tied = sorted([key for bundle in value for key in bundle])
    return tied == list(range(store.key_count)) and tuple(sorted(value)) == value


def is_coarser(store, one, other):
    """Whether each bundle of the second tying lies within one of the first."""
    wide = [mask_of(bundle) for bundle in checked_tying(store, one)]
    narrow = [mask_of(bundle) for bundle in checked_tying(store, other)]
    return all([_lies_within_some(mask, wide) for mask in narrow])


def _lies_within_some(mask, others):
    return any([is_within(mask, other) for other in others])


def refined(store, one, other):
    """The tying in which keys are in one bundle just if they are so in both."""
    first = checked_tying(store, one)
    second = checked_tying(store, other)
    shared = [_common(bundle, other_bundle) for bundle in first for other_bundle in second]
    return tuple(sorted([bundle for bundle in shared if bundle]))


def _common(lot, other_lot):
    return tuple([key for key in lot if key in other_lot])


def are_nested(store, tying, one, other):
    """Whether in each bundle one of two lots has all the keys that the other one has there."""
    bundles = [mask_of(bundle) for bundle in checked_tying(store, tying)]
    first = mask_of(checked_lot(store, one))
    second = mask_of(checked_lot(store, other))
    return all([_are_ordered(first & bundle, second & bundle) for bundle in bundles])


def _are_ordered(mask, other):
    return is_within(mask, other) or is_within(other, mask)


def tied_chain(store, tying, one, other):
    """Some chain by a tying from one state to another one with as few states as any; None if there is none."""
    bundles = checked_tying(store, tying)
    first, last = checked_states(store, one, other)
    return shortest_walk(store, _changing(bundles, first, last), first, last)


def is_tied_chain(store, tying, one, other, value):
    """Whether any value is a chain by a tying from one state to another one."""
    bundles = checked_tying(store, tying)
    first, last = checked_states(store, one, other)
    return is_walk(store, _changing(bundles, first, last), first, last, value)


def _changing(bundles, one, other):
    """What a step may change: the keys of a bundle in which the two states differ."""
    apart = differing(one, other)
    return [_common(bundle, apart) for bundle in bundles]
