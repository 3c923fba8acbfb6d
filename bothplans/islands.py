"""Islands: what is joined by changes of the keys of a lot alone."""

from bothplans.groups import key_groups, places_by_label
from bothplans.masks import lots_of, mask_of
from bothplans.roots import joined_roots, numbered
from bothplans.stores import checked_lot, keys_outside, states_at, views


def _with_groups(roots, groups):
    """The least place of the island of each place, when besides those with one root each group stands together."""
    return joined_roots(roots, [(group[0], place) for group in groups for place in group])


def _island_roots(store, lot):
    """The least place of the island of each place; the lot is checked already."""
    roots = list(range(len(store.states)))
    for key in lot:
        roots = _with_groups(roots, key_groups(store, key))
    return roots


def roots_by_mask(store):
    """For each mask of a lot, at this index, the least place of the island of each place."""
    tables = [list(range(len(store.states)))]
    for key in range(store.key_count):
        groups = key_groups(store, key)
        tables = tables + [_with_groups(roots, groups) for roots in tables]
    return tables


def islands(store, lot):
    """The islands of a lot."""
    groups = places_by_label(_island_roots(store, checked_lot(store, lot)))
    return tuple([states_at(store, group) for group in groups])


def island_question(store, lot):
    """The question for the index of the island."""
    return numbered(_island_roots(store, checked_lot(store, lot)))


def _are_whole(store, lot, roots):
    # No island has states that disagree on another key: so there are never fewer islands than views.
    return len(set(roots)) == len(set(views(store, keys_outside(store, lot))))


def is_whole(store, lot):
    """Whether any two states that agree on all other keys are on one island of the lot."""
    checked = checked_lot(store, lot)
    return _are_whole(store, checked, _island_roots(store, checked))


def unwhole(store):
    """The lots that are not whole."""
    tables = roots_by_mask(store)
    lots = lots_of(list(range(1 << store.key_count)))
    return tuple([lot for lot in lots if not _are_whole(store, lot, tables[mask_of(lot)])])
