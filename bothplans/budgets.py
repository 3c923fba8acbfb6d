"""Budgets: values up to caps, whose sum keeps to a span."""

from bothplans.errors import InvalidLot, InvalidState, InvalidStore
from bothplans.kinds import is_number, is_sequence
from bothplans.stores import Store, is_key


class Budget:
    """The rows of values up to the caps whose sum is from low to high."""

    def __init__(self, caps, low, high):
        if not _are_caps(caps):
            raise InvalidStore(0)
        if not is_number(low):
            raise InvalidStore(1)
        if not is_number(high):
            raise InvalidStore(2)
        if low > min(high, sum(caps)):
            raise InvalidStore(3)
        self.key_count = len(caps)
        self.caps = tuple(caps)
        self.low = low
        self.high = min(high, sum(caps))

    def __eq__(self, other):
        if not isinstance(other, Budget):
            return False
        return self.caps == other.caps and self.low == other.low and self.high == other.high


def _are_caps(value):
    return is_sequence(value) and len(value) > 0 and all([is_number(cap) for cap in value])


def budget_state(budget, value):
    """Any value as a state; InvalidState(0) for what is none."""
    if not _is_state(budget, value):
        raise InvalidState(0)
    return tuple(value)


def budget_states(budget, one, other):
    """Any two values as a pair of states; InvalidState(0) or InvalidState(1) for what is none."""
    first = budget_state(budget, one)
    if not _is_state(budget, other):
        raise InvalidState(1)
    return first, tuple(other)


def _is_state(budget, value):
    if not is_sequence(value) or len(value) != budget.key_count:
        return False
    if not all([is_number(entry) and entry <= cap for entry, cap in zip(value, budget.caps)]):
        return False
    return budget.low <= sum(value) <= budget.high


def value_span(budget, key):
    """The least and the greatest value of a key; InvalidLot(0) for what is no key."""
    if not is_key(budget, key):
        raise InvalidLot(0)
    others = sum(budget.caps) - budget.caps[key]
    return max(0, budget.low - others), min(budget.caps[key], budget.high)


def unfixed_keys(budget):
    """The free keys: those that have several values in the states."""
    spans = [value_span(budget, key) for key in range(budget.key_count)]
    return tuple([key for key, (least, greatest) in enumerate(spans) if least < greatest])


def budget_store(budget):
    """The store of the states."""
    rows = [()]
    left = sum(budget.caps)
    for cap in budget.caps:
        left = left - cap
        # What is no beginning of a state is left out at once: else there might be far more rows than states.
        rows = [row + (value,) for row in rows for value in _next_values(budget, sum(row), cap, left)]
    return Store([cap + 1 for cap in budget.caps], rows)


def _next_values(budget, spent, cap, left):
    """The values up to a cap behind which the sum can be kept, when some is spent and others have so much left."""
    least = max(0, budget.low - spent - left)
    return list(range(least, min(cap, budget.high - spent) + 1))
