"""What ties keys together: rows of allowed states, the steps of which change only some keys at once."""

from bothplans.groups import first_places
from bothplans.masks import is_within
from bothplans.roots import joined_roots, tying_of


def agreement_tables(store):
    """For the mask of each lot, for each place the least one whose state agrees with it on all other keys."""
    everything = (1 << store.key_count) - 1
    tables = {everything: [0] * len(store.states)}
    for mask in reversed(range(everything)):
        key = _first_key_outside(mask)
        tables[mask] = _split(tables[mask | 1 << key], [state[key] for state in store.states])
    return tables


def _first_key_outside(mask):
    key = 0
    while mask >> key & 1:
        key += 1
    return key


def _split(roots, values):
    """The least places with the same root and the same value."""
    return first_places(list(zip(roots, values)))


def linked_roots(tables, steps):
    """For each place the least one to which allowed states lead, each step within one of the masks."""
    roots = tables[0]
    for step in steps:
        roots = joined_roots(roots, list(enumerate(tables[step])))
    return roots


def unlinked_places(tables, mask, steps):
    """The places of some two states that agree outside a mask and that no such steps link; None if there are none."""
    roots = linked_roots(tables, steps)
    for place, first in enumerate(tables[mask]):
        if roots[place] != roots[first]:
            return first, place
    return None


def steps_within(mask, bundles):
    """The masks of what may change at once: the keys of a mask that are in one bundle."""
    return [mask & bundle for bundle in bundles]


def loose_mask(tables, bundles):
    """The mask of a least lot of which some two states that agree on all other keys are not linked, or None.

    Steps change keys of the lot alone, all of one bundle; bundles are masks.
    """
    # All lots of fewer of its keys have lesser masks: so the first one found is a least one.
    for mask in sorted(tables):
        if unlinked_places(tables, mask, steps_within(mask, bundles)) is not None:
            return mask
    return None


def knot_places(tables, one, other):
    """The places of some two states that knot two unlike keys; None if there are none."""
    for mask in tables:
        if is_within(1 << one | 1 << other, mask):
            # Within a mask without one of the keys, any two states that agree outside it are one step apart.
            places = unlinked_places(tables, mask, [mask ^ 1 << one, mask ^ 1 << other])
            if places is not None:
                return places
    return None


def spanning_knots(store):
    """Tuples (key, key, place, place) of knots, ascending, so few that no key hangs together with another one twice."""
    tables = agreement_tables(store)
    roots = list(range(store.key_count))
    found = []
    for one in range(store.key_count):
        for other in range(one + 1, store.key_count):
            places = None if roots[one] == roots[other] else knot_places(tables, one, other)
            if places is not None:
                roots = joined_roots(roots, [(one, other)])
                found.append((one, other) + places)
    return found


def tying_by(store, knots):
    """The tying in which those keys are in one bundle that hang together by tuples that begin with two keys."""
    return tying_of(store.key_count, [knot[:2] for knot in knots])
