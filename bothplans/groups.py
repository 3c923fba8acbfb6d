"""States that stand together, by their indexes among the states of a store."""

from bothplans.stores import keys_outside, views


def places_by_label(labels):
    """The indexes with one label each, ascending, in the order of the first of them."""
    found = {}
    for place, label in enumerate(labels):
        found.setdefault(label, []).append(place)
    return [tuple(places) for places in found.values()]


def first_places(labels):
    """For each index the first one with the same label."""
    firsts = {}
    return [firsts.setdefault(label, place) for place, label in enumerate(labels)]


def first_unlike(groups, labels):
    """The first two indexes that are in one group and have unlike labels; None if there are none."""
    # If a group has unlike labels, its first index is one of two; and the groups stand by their first indexes.
    for group in groups:
        for place in group:
            if labels[place] != labels[group[0]]:
                return group[0], place
    return None


def key_groups(store, key):
    """Groups of two or more states that differ in this key alone: any two of a group are neighbours."""
    groups = places_by_label(views(store, keys_outside(store, (key,))))
    return [group for group in groups if len(group) > 1]
