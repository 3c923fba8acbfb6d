"""States that surely have one answer in a question of which it is known only that some lots tell it."""

from bothplans.errors import InvalidLot
from bothplans.groups import first_places, places_by_label
from bothplans.kinds import first_misfit, is_sequence
from bothplans.roots import joined_roots, numbered
from bothplans.stores import checked_states, is_state, keys_outside, states_at, view, views
from bothplans.walks import shortest_walk


def checked_lots(store, value):
    """Any sequence of lots, their keys in any order, as lots; InvalidLot with the index of the first that is none."""
    if not is_sequence(value):
        raise InvalidLot(0)
    for at, entry in enumerate(value):
        if not is_sequence(entry) or first_misfit(entry, store.key_count) is not None:
            raise InvalidLot(at)
    return [tuple(sorted(entry)) for entry in value]


def widened_classes(store, roots, lot):
    """For each place the least one that is surely alike, if those with one root were, and now the lot tells, too."""
    return joined_roots(roots, list(enumerate(first_places(views(store, lot)))))


def alike_roots(store, lots):
    """For each place the least one that is surely alike; the lots are checked already."""
    roots = list(range(len(store.states)))
    for lot in lots:
        roots = widened_classes(store, roots, lot)
    return roots


def sure_classes(store, lots):
    """The states, those that are surely alike together."""
    groups = places_by_label(alike_roots(store, checked_lots(store, lots)))
    return tuple([states_at(store, group) for group in groups])


def sure_way(store, lots, one, other):
    """Some way from one state to another one with the fewest states; None if they are not surely alike."""
    plans = checked_lots(store, lots)
    first, last = checked_states(store, one, other)
    return shortest_walk(store, [keys_outside(store, lot) for lot in plans], first, last)


def is_sure_way(store, lots, one, other, value):
    """Whether any value is a way from one state to another one."""
    plans = checked_lots(store, lots)
    first, last = checked_states(store, one, other)
    if not isinstance(value, tuple) or not all([is_state(store, state) for state in value]):
        return False
    if len(value) == 0 or value[0] != first or value[-1] != last:
        return False
    return all([_agree_on_some(plans, value[at - 1], value[at]) for at in range(1, len(value))])


def _agree_on_some(lots, one, other):
    return any([view(one, lot) == view(other, lot) for lot in lots])


def class_question(store, lots):
    """The question for the index of the class."""
    return numbered(alike_roots(store, checked_lots(store, lots)))
