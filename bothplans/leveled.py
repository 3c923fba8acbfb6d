"""Levels as stores, and stores as levels."""

from bothplans.errors import Refused
from bothplans.levels import Levels, bottom_row, lower_row, upper_row
from bothplans.rings import rings_by_floor
from bothplans.stores import Store, is_state


def levels_store(levels):
    """The store of the allowed rows."""
    rows = {bottom_row(levels): True}
    for least in rings_by_floor(levels):
        for row in list(rows):
            rows[upper_row(row, least)] = True
    return Store(levels.sizes, list(rows))


def unclosed(store):
    """The first pair of states of which the lower or the upper one is not allowed; None if there is none."""
    for place, state in enumerate(store.states):
        for later in store.states[place + 1:]:
            if not is_state(store, lower_row(state, later)) or not is_state(store, upper_row(state, later)):
                return state, later
    return None


def levels_of(store):
    """Some levels whose allowed rows are the states; Refused with the index of the first of an unclosed pair."""
    pair = unclosed(store)
    if pair is not None:
        raise Refused(store.states.index(pair[0]))
    bottom = store.states[0]
    rules = [(0, 0, key, bottom[key]) for key in range(store.key_count) if bottom[key] > 0]
    for key in range(store.key_count):
        rules.extend(_rules_of(store, bottom, key))
    return Levels(store.sizes, rules)


def _rules_of(store, bottom, key):
    """For each level of a key rules for what is then at least so in all states, as far as it is not so below."""
    rules = []
    below = bottom
    for level in range(1, store.sizes[key]):
        reached = [state for state in store.states if state[key] >= level]
        if not reached:
            return rules + [(key, level, key, store.sizes[key])]
        least = reached[0]
        for state in reached:
            least = lower_row(least, state)
        wanted = [other for other in range(store.key_count) if least[other] > below[other]]
        rules.extend([(key, level, other, least[other]) for other in wanted if other != key or least[key] > level])
        below = least
    return rules
