"""The tyings by which a store is joined, the finest of them, and the bundles that turn a question."""

from bothplans.errors import Refused
from bothplans.masks import mask_of
from bothplans.questions import checked_question
from bothplans.ties import agreement_tables, loose_mask, spanning_knots, tying_by
from bothplans.tyings import checked_tying


def is_joined_by(store, tying):
    """Whether there is a chain by the tying from each state to each other one."""
    masks = [mask_of(bundle) for bundle in checked_tying(store, tying)]
    # If a chain stays within the keys in which two states differ, it stays within each lot that has these keys.
    return loose_mask(agreement_tables(store), masks) is None


def finest(store):
    """The tying by which the store is joined, and such that all others by which it is joined are coarser."""
    return tying_by(store, spanning_knots(store))


def tyings(store):
    """All tyings by which the store is joined: just those that are coarser than the finest one."""
    found = [()]
    for bundle in finest(store):
        found = [wider for tying in found for wider in _with_bundle(tying, bundle)]
    return tuple(sorted([_in_order(tying) for tying in found]))


def _with_bundle(tying, bundle):
    merged = [tying[:at] + (tying[at] + bundle,) + tying[at + 1:] for at in range(len(tying))]
    return merged + [tying + (bundle,)]


def _in_order(tying):
    return tuple(sorted([tuple(sorted(bundle)) for bundle in tying]))


def tying_count(store):
    """How many tyings there are by which the store is joined."""
    return len(tyings(store))


def turning_bundles(store, tying, question):
    """The bundles in whose keys alone some two states with unlike answers differ; Refused(0) if not joined by it."""
    bundles = checked_tying(store, tying)
    asked = checked_question(store, question)
    tables = agreement_tables(store)
    masks = [mask_of(bundle) for bundle in bundles]
    if loose_mask(tables, masks) is not None:
        raise Refused(0)
    return tuple([bundle for bundle in bundles if _turns(asked, tables[mask_of(bundle)])])


def _turns(question, roots):
    return any([question[place] != question[root] for place, root in enumerate(roots)])
