"""Least lots that tell a question, and what shows that they are."""

from bothplans.masks import differing_mask, least_masks, lot_of, lots_of
from bothplans.questions import are_unlike, checked_question
from bothplans.stores import checked_lot, is_state_pair, view
from bothplans.telling import unlike_pair


def _parting_masks(store, question):
    """The masks of the parting lots of a question, which is checked already."""
    found = {}
    for place, state in enumerate(store.states):
        for earlier in range(place):
            if question[earlier] != question[place]:
                found[differing_mask(store.states[earlier], state)] = True
    return least_masks(list(found))


def _hits_all(mask, partings):
    # A lot tells exactly if it has a key of each parting lot.
    return all([mask & parting != 0 for parting in partings])


def _is_least_hit(mask, partings):
    if not _hits_all(mask, partings):
        return False
    return not any([_hits_all(mask ^ (1 << key), partings) for key in lot_of(mask)])


def least_lots(store, question):
    """The lots that tell the question, while no lot of fewer of their keys does."""
    partings = _parting_masks(store, checked_question(store, question))
    return lots_of([mask for mask in range(1 << store.key_count) if _is_least_hit(mask, partings)])


def parting_lots(store, question):
    """The least of the lots in which just two states with unlike answers differ."""
    return lots_of(_parting_masks(store, checked_question(store, question)))


def needed_keys(store, question):
    """The keys that are in each lot that tells the question."""
    lots = least_lots(store, question)
    return tuple([key for key in range(store.key_count) if all([key in lot for lot in lots])])


def idle_keys(store, question):
    """The keys that are in no least lot."""
    lots = least_lots(store, question)
    return tuple([key for key in range(store.key_count) if not any([key in lot for lot in lots])])


def least_paper(store, question, lot):
    """None if the lot is no least one; else, for each key, two states that show that it is wanted."""
    asked = checked_question(store, question)
    keys = checked_lot(store, lot)
    if unlike_pair(store, asked, keys) is not None:
        return None
    pairs = [unlike_pair(store, asked, _without(keys, key)) for key in keys]
    if None in pairs:
        return None
    return tuple(pairs)


def _without(lot, key):
    return [left for left in lot if left != key]


def is_least_paper(store, question, lot, value):
    """Whether the lot tells the question, and any value is a paper for it."""
    asked = checked_question(store, question)
    keys = checked_lot(store, lot)
    if unlike_pair(store, asked, keys) is not None:
        return False
    if not isinstance(value, tuple) or len(value) != len(keys):
        return False
    return all([_is_unlike_pair(store, asked, _without(keys, key), pair) for key, pair in zip(keys, value)])


def _is_unlike_pair(store, question, lot, value):
    """Whether any value is a pair of states, in any order, that agree on the lot, but have unlike answers."""
    if not is_state_pair(store, value):
        return False
    one, other = value
    return view(one, lot) == view(other, lot) and are_unlike(store, question, one, other)
