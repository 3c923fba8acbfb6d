"""Questions for the sum of the values of a budget, each times a factor."""

from bothplans.budgets import unfixed_keys, value_span
from bothplans.errors import InvalidQuestion
from bothplans.kinds import is_integer, is_sequence
from bothplans.stores import checked_lot, keys_outside


def _checked_factors(budget, factors):
    if not is_sequence(factors) or len(factors) != budget.key_count:
        raise InvalidQuestion(0)
    if not all([is_integer(factor) for factor in factors]):
        raise InvalidQuestion(0)
    return tuple(factors)


def sum_clash(budget, factors, lot):
    """Some two states that agree on the lot and have unlike sums; None if the lot tells the sum."""
    asked = _checked_factors(budget, factors)
    keys = checked_lot(budget, lot)
    left = [key for key in unfixed_keys(budget) if key not in keys]
    if budget.low < budget.high:
        turning = [key for key in left if asked[key] != 0]
        return _raised_by_one(budget, turning[0]) if turning else None
    unlike = [key for key in left if asked[key] != asked[left[0]]]
    return _moved_by_one(budget, left[0], unlike[0]) if unlike else None


def _raised_by_one(budget, key):
    """Two states that differ in a free key alone, where several sums are allowed."""
    state = _least_state(budget, key, keys_outside(budget, (key,)))
    return state, _with_added(state, key, 1)


def _moved_by_one(budget, key, other):
    """Two states, the second of which has one more in a free key, and one less in another one."""
    state = _least_state(budget, key, (other,) + keys_outside(budget, (key, other)))
    return state, _with_added(_with_added(state, key, 1), other, -1)


def _least_state(budget, key, others):
    """A state of the least sum: a key has its least value, and the others, one by one, as much as there is left."""
    values = [0] * budget.key_count
    values[key] = value_span(budget, key)[0]
    left = budget.low - values[key]
    for other in others:
        values[other] = min(left, budget.caps[other])
        left = left - values[other]
    return tuple(values)


def _with_added(state, key, number):
    return state[:key] + (state[key] + number,) + state[key + 1:]


def sum_lots(budget, factors):
    """The lots that tell the sum, while no lot of fewer of their keys does."""
    asked = _checked_factors(budget, factors)
    free = unfixed_keys(budget)
    if budget.low < budget.high or not free:
        return (_with_other_factors(asked, free, 0),)
    unlike = sorted({asked[key] for key in free})
    return tuple(sorted([_with_other_factors(asked, free, factor) for factor in unlike]))


def _with_other_factors(factors, keys, factor):
    return tuple([key for key in keys if factors[key] != factor])
