"""Questions for any family of lots, and what a lot tells of other keys."""

from bothplans.errors import InvalidLot, Refused
from bothplans.groups import places_by_label
from bothplans.kinds import first_misfit, is_sequence
from bothplans.least import least_lots
from bothplans.masks import is_within, mask_of
from bothplans.stores import Store, checked_lot, views


def family_store(keys, lots):
    """A store of so many keys and a question to it that a lot tells exactly if it has all keys of one of the lots."""
    masks = _family_masks(keys, lots)
    if not masks:
        raise Refused(0)
    zeros = tuple([0] * keys)
    states = [zeros]
    for mask in range(1 << keys):
        if _is_widest_open(mask, keys, masks):
            states.append(tuple([1 - (mask >> key & 1) for key in range(keys)]))
    store = Store([2] * keys, states)
    return store, tuple([int(state != zeros) for state in store.states])


def _family_masks(keys, lots):
    if not is_sequence(lots):
        raise InvalidLot(0)
    for at, lot in enumerate(lots):
        if not is_sequence(lot) or first_misfit(lot, keys) is not None:
            raise InvalidLot(at)
    return [mask_of(lot) for lot in lots]


def _is_open(mask, masks):
    return not any([is_within(other, mask) for other in masks])


def _is_widest_open(mask, keys, masks):
    # What lies within an open lot is open: so one further key at a time is enough to look at.
    if not _is_open(mask, masks):
        return False
    return not any([_is_open(mask | (1 << key), masks) for key in range(keys) if not mask >> key & 1])


def told_keys(store, lot):
    """The keys whose value the lot tells."""
    groups = places_by_label(views(store, checked_lot(store, lot)))
    return tuple([key for key in range(store.key_count) if _is_told(store, key, groups)])


def _is_told(store, key, groups):
    return all([len({store.states[place][key] for place in group}) == 1 for group in groups])


def tells_more(store, one, other):
    """Whether the first lot tells each question that the second one tells."""
    told = told_keys(store, one)
    return all([key in told for key in checked_lot(store, other)])


def full_lots(store):
    """The lots that tell each question, while no lot of fewer of their keys does."""
    # The question that is answered unlike in all states is told by just those that tell each.
    return least_lots(store, tuple(range(len(store.states))))
