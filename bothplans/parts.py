"""Views of a store as stores, stores side by side, and the parts of a store."""

from bothplans.errors import Refused
from bothplans.masks import lot_of, lots_of
from bothplans.putting import put_together
from bothplans.questions import checked_question
from bothplans.stores import Store, checked_lot, place_of, view, views
from bothplans.tyings import checked_tying


def view_store(store, lot):
    """The store of the keys of a lot, whose states are the views on it; Refused(0) for the empty lot."""
    return _store_of_views(store, _checked_filled_lot(store, lot))


def _checked_filled_lot(store, lot):
    keys = checked_lot(store, lot)
    if not keys:
        raise Refused(0)
    return keys


def _store_of_views(store, keys):
    return Store(view(store.sizes, keys), views(store, keys))


def led_back(store, lot, question):
    """The question for what a question to the view store answers to the view on the lot."""
    keys = _checked_filled_lot(store, lot)
    narrow = _store_of_views(store, keys)
    asked = checked_question(narrow, question)
    return tuple([asked[place_of(narrow, seen)] for seen in views(store, keys)])


def side_by_side(one, other):
    """The store of the keys of two stores, with each state of the first and each of the second behind it."""
    return put_together(one, other, ())


def is_parted_by(store, tying):
    """Whether each row that has on each bundle a view that some state has there is an allowed state."""
    return _are_parting(store, checked_tying(store, tying))


def _are_parting(store, lots):
    # Each state is such a row: so all such rows are states if they are as many.
    count = 1
    for lot in lots:
        count = count * len(set(views(store, lot)))
    return count == len(store.states)


def parts(store):
    """The tying that parts the store, and such that each other one that does is coarser."""
    everything = (1 << store.key_count) - 1
    halves = [mask for mask in range(everything + 1) if _are_parting(store, (lot_of(mask), lot_of(everything ^ mask)))]
    found = {}
    for key in range(store.key_count):
        # What two such lots have in common is such a lot, too: so the least one with a key is its part.
        found[_common([mask for mask in halves if mask >> key & 1])] = True
    return lots_of(list(found))


def _common(masks):
    common = masks[0]
    for mask in masks:
        common = common & mask
    return common
