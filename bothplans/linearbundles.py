"""Changes that lead from each state of linear rules to a state, and the bundles of their keys."""

from bothplans.errors import InvalidLot
from bothplans.linear import is_numbers, keys_of
from bothplans.reducing import free_keys, freed, reduced, summed, unit_row, widened
from bothplans.roots import tying_of
from bothplans.stores import is_key, keys_outside


def is_change(system, value):
    """Whether any value is a change: not all 0, and each state with it added is a state."""
    if not isinstance(value, tuple) or not is_numbers(system, value) or not _had(value):
        return False
    return all([summed(system.prime, value, rule) == 0 for rule in system.rules])


def _had(row):
    """The keys that a row for all keys has."""
    return [key for key in range(len(row)) if row[key] != 0]


def is_least_change(system, value):
    """Whether any value is a change such that each change that has none but its keys has all of them."""
    if not is_change(system, value):
        return False
    # If changes of these keys had two free ones, some of them would be 0 at one of the keys.
    return len(free_keys(_held(system, keys_outside(system, _had(value))), keys_of(system))) == 1


def _held(system, lot):
    """Reduced rows with which just those changes sum to 0 that have no key of a lot."""
    held = [unit_row(system.key_count, key) for key in lot]
    return reduced(system.prime, [rule[:-1] for rule in system.rules] + held, keys_of(system))


def linear_bundles(system):
    """The finest tying of the states: what hangs together if the keys of each reduced rule do."""
    return _bundles(system, [rule[:-1] for rule in system.rules])


def _bundles(system, rows):
    return tying_of(system.key_count, [_had(row) for row in rows])


def tying_change(system, one, other):
    """Some least change that has both keys; None if there is none."""
    if not is_key(system, one):
        raise InvalidLot(0)
    if not is_key(system, other):
        raise InvalidLot(1)
    rows = _held(system, ())
    if not _has_change(system, rows, one, other):
        return None
    # A key is left out if some least change has both keys without it: what remains has just such a one.
    for key in keys_outside(system, (one, other)):
        narrower = widened(system.prime, rows, unit_row(system.key_count, key), keys_of(system))
        if _has_change(system, narrower, one, other):
            rows = narrower
    return freed(system.prime, rows, keys_of(system), free_keys(rows, keys_of(system))[0])


def _has_change(system, rows, one, other):
    """Whether some least one of the changes that sum to 0 with reduced rows has both keys."""
    if unit_row(system.key_count, one) in rows:
        return False
    return any([one in bundle and other in bundle for bundle in _bundles(system, rows)])
