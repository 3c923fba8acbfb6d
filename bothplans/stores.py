"""Stores, their states, and lots of their keys."""

from bothplans.errors import InvalidLot, InvalidState, InvalidStore
from bothplans.kinds import are_sizes, first_misfit, is_number, is_row, is_sequence


class Store:
    """Keys with so many values each, and the states that are allowed."""

    def __init__(self, sizes, states):
        if not are_sizes(sizes):
            raise InvalidStore(0)
        if not is_sequence(states) or len(states) == 0:
            raise InvalidStore(1)
        for at, state in enumerate(states):
            if not is_row(state, sizes):
                raise InvalidStore(2 + at)
        self.key_count = len(sizes)
        self.sizes = tuple(sizes)
        self.states = tuple(sorted({tuple(state) for state in states}))
        self._places = {state: place for place, state in enumerate(self.states)}

    def __eq__(self, other):
        return isinstance(other, Store) and self.sizes == other.sizes and self.states == other.states


def is_allowed(store, value):
    """Whether any value is a sequence of the values of an allowed state."""
    return is_row(value, store.sizes) and tuple(value) in store._places


def is_state(store, value):
    """Whether any value is an allowed state, as a tuple."""
    return isinstance(value, tuple) and is_allowed(store, value)


def is_state_pair(store, value):
    """Whether any value is a pair of allowed states."""
    return isinstance(value, tuple) and len(value) == 2 and all([is_state(store, state) for state in value])


def place_of(store, state):
    """The index of an allowed state among the states of its store."""
    return store._places[state]


def states_at(store, places):
    """The states at these indexes."""
    return tuple([store.states[place] for place in places])


def checked_state(store, value):
    """Any value as an allowed state; InvalidState(0) for what is none."""
    if not is_allowed(store, value):
        raise InvalidState(0)
    return tuple(value)


def checked_states(store, one, other):
    """Any two values as a pair of allowed states; InvalidState(0) or InvalidState(1) for what is none."""
    first = checked_state(store, one)
    if not is_allowed(store, other):
        raise InvalidState(1)
    return first, tuple(other)


def is_key(store, value):
    """Whether any value is a key."""
    return is_number(value) and value < store.key_count


def is_lot(store, value):
    """Whether any value is a lot, an ascending tuple of keys."""
    if not isinstance(value, tuple) or first_misfit(value, store.key_count) is not None:
        return False
    return tuple(sorted(value)) == value


def checked_lot(store, value):
    """Any sequence of unlike keys as a lot; InvalidLot with the index of the first entry that does not fit."""
    if not is_sequence(value):
        raise InvalidLot(0)
    at = first_misfit(value, store.key_count)
    if at is not None:
        raise InvalidLot(at)
    return tuple(sorted(value))


def keys_outside(store, lot):
    """The keys that are not in a lot, which is checked already."""
    return tuple([key for key in range(store.key_count) if key not in lot])


def view(state, lot):
    """The values that a state has on a lot, both of which are checked already."""
    return tuple([state[key] for key in lot])


def views(store, lot):
    """The view of each state, in their order, on a lot, which is checked already."""
    return [view(state, lot) for state in store.states]


def agreeing(store, one, other):
    """The lot of the keys on which two states have one value."""
    first, second = checked_states(store, one, other)
    return tuple([key for key in range(store.key_count) if first[key] == second[key]])


def other_keys(store, lot):
    """The lot of the keys that are not in a lot."""
    return keys_outside(store, checked_lot(store, lot))


def view_of(store, state, lot):
    """The values that a state has on a lot."""
    checked = checked_state(store, state)
    return view(checked, checked_lot(store, lot))


def neighbours(store, state):
    """The allowed states that differ from a state in just one key."""
    checked = checked_state(store, state)
    return tuple([other for other in store.states if len(differing(checked, other)) == 1])


def differing(one, other):
    """The lot of the keys in which two states differ, which are checked already."""
    return tuple([key for key in range(len(one)) if one[key] != other[key]])
