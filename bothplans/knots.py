"""Knots of keys, and papers that show which tying is the finest one, or that a store is not joined by a tying."""

from bothplans.bundles import is_joined_by
from bothplans.errors import InvalidLot
from bothplans.masks import lot_of, mask_of
from bothplans.questions import is_question
from bothplans.roots import numbered
from bothplans.stores import differing, is_key, is_lot, is_state_pair, keys_outside, states_at
from bothplans.telling import tells
from bothplans.ties import (
    agreement_tables, knot_places, linked_roots, loose_mask, spanning_knots, steps_within, tying_by,
)
from bothplans.tyings import are_nested, checked_tying, is_tying
from bothplans.walks import shortest_walk


def knot(store, one, other):
    """Some two states that knot two unlike keys; None if there are none."""
    _check_keys(store, one, other)
    places = knot_places(agreement_tables(store), one, other)
    return None if places is None else states_at(store, places)


def is_knot(store, one, other, value):
    """Whether any value is a pair of states that knot two unlike keys."""
    _check_keys(store, one, other)
    return _are_knotting(store, one, other, value)


def _check_keys(store, one, other):
    if not is_key(store, one):
        raise InvalidLot(0)
    if not is_key(store, other) or one == other:
        raise InvalidLot(1)


def _are_knotting(store, one, other, value):
    if not is_state_pair(store, value):
        return False
    first, last = value
    apart = differing(first, last)
    steps = [[key for key in apart if key != one], [key for key in apart if key != other]]
    return shortest_walk(store, steps, first, last) is None


def finest_paper(store):
    """Some finest paper: the finest tying, and for each bundle so many knots by which its keys hang together."""
    knots = spanning_knots(store)
    quadruples = [(one, other) + states_at(store, (first, last)) for one, other, first, last in knots]
    return tying_by(store, knots), tuple(quadruples)


def is_finest_paper(store, value):
    """Whether any value is a finest paper."""
    if not isinstance(value, tuple) or len(value) != 2:
        return False
    tying, knots = value
    if not is_tying(store, tying) or not isinstance(knots, tuple):
        return False
    if not all([_is_knot_of_two(store, entry) for entry in knots]):
        return False
    # With so few knots, keys hang together within the bundles alone if those of each bundle do.
    if len(knots) != store.key_count - len(tying) or tying_by(store, knots) != tying:
        return False
    ascending = all([knots[at] < knots[at + 1] for at in range(len(knots) - 1)])
    return ascending and is_joined_by(store, tying)


def _is_knot_of_two(store, value):
    """Whether any value is a quadruple of two keys, the first less than the second, and of states that knot them."""
    if not isinstance(value, tuple) or len(value) != 4:
        return False
    one, other, first, last = value
    if not is_key(store, one) or not is_key(store, other) or one >= other:
        return False
    return _are_knotting(store, one, other, (first, last))


def tying_fault(store, tying):
    """Some two nested lots that tell a question which their common keys do not tell; None if there are none."""
    bundles = checked_tying(store, tying)
    masks = [mask_of(bundle) for bundle in bundles]
    tables = agreement_tables(store)
    loose = loose_mask(tables, masks)
    if loose is None:
        return None
    # What states lead to within a least loose lot is told by all keys but those of it in one bundle, and by all keys
    # but those of it in the other bundles: what is left out by each is a lot of fewer keys, which is not loose.
    steps = [step for step in steps_within(loose, masks) if step]
    one = keys_outside(store, lot_of(steps[0]))
    other = keys_outside(store, lot_of(loose ^ steps[0]))
    return one, other, numbered(linked_roots(tables, steps))


def is_tying_fault(store, tying, value):
    """Whether any value is two nested lots and a question that both tell, though their common keys do not."""
    bundles = checked_tying(store, tying)
    if not isinstance(value, tuple) or len(value) != 3:
        return False
    one, other, question = value
    if not is_lot(store, one) or not is_lot(store, other) or not is_question(store, question):
        return False
    if not are_nested(store, bundles, one, other):
        return False
    common = [key for key in one if key in other]
    return tells(store, question, one) and tells(store, question, other) and not tells(store, question, common)
