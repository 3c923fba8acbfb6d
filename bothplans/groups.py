"""States that stand together, by their indexes among the states of a store."""

from bothplans.stores import keys_outside, views


def places_by_label(labels):
    """The indexes with one label each, ascending, in the order of the first of them."""
    found = {}
    for place, label in enumerate(labels):
        found.setdefault(label, []).append(place)
    return [tuple(places) for places in found.values()]


def key_groups(store, key):
    """Groups of two or more states that differ in this key alone: any two of a group are neighbours."""
    groups = places_by_label(views(store, keys_outside(store, (key,))))
    return [group for group in groups if len(group) > 1]
