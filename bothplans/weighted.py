"""Weighted sums that keep to a span, and the cuts by which their states are not joined."""

from bothplans.kinds import is_number
from bothplans.residues import first_multiple, rounded_up
from bothplans.stores import differing


def _weight_of(weights, row):
    return sum([value * weight for value, weight in zip(row, weights)])


def _is_allowed(caps, weights, low, high, value):
    """Whether any value is an allowed tuple."""
    if not isinstance(value, tuple) or len(value) != len(caps):
        return False
    if not all([is_number(entry) and entry <= cap for entry, cap in zip(value, caps)]):
        return False
    return low <= _weight_of(weights, value) <= high


def is_cut(caps, weights, low, high, value):
    """Whether any value is a cut: two allowed tuples, the first of which can go no step towards the second."""
    if not isinstance(value, tuple) or len(value) != 2:
        return False
    if not all([_is_allowed(caps, weights, low, high, row) for row in value]):
        return False
    one, other = value
    more = [key for key in differing(one, other) if other[key] > one[key]]
    less = [key for key in differing(one, other) if other[key] < one[key]]
    if len(more) != 1 or len(less) != 1:
        return False
    weight = _weight_of(weights, one)
    return weight + weights[more[0]] > high and weight - weights[less[0]] < low


def two_cut(caps, weights, low, high):
    """Some cut of the allowed tuples of two keys; None if they are joined."""
    # If there is a cut, there is one that goes up with the first key: from a tuple that can neither go up with it nor
    # down with the second key. Of such tuples that with the least first value has the greatest second one, too.
    least = max(low, high - weights[0] + 1)
    most = min(high, low + weights[1] - 1)
    one = _first_tuple(weights, least, most, 0, caps)
    if one is None:
        return None
    other = _first_tuple(weights, low, high, one[0] + 1, (caps[0], one[1] - 1))
    return None if other is None else (one, other)


def _first_tuple(weights, least, most, start, caps):
    """Of the pairs of values up to caps that weigh from least to most that with the least first value, or None.

    Only first values from a start on count.
    """
    weight, other_weight = weights
    if least > most:
        return None
    # Below it, the second value would be beyond its cap.
    start = max(start, rounded_up(least - other_weight * caps[1], weight))
    # From there on, what is wanted is just a multiple of the other weight among what may be left.
    left = (most - weight * start) % other_weight
    if left > most - least:
        steps = first_multiple(weight, other_weight, left - (most - least), left)
        if steps is None:
            return None
        start = start + steps
    if start > caps[0] or weight * start > most:
        return None
    return start, min(caps[1], (most - weight * start) // other_weight)


def _two_heaviest(caps, weights):
    """The two keys of the greatest weights, of those that have several values, or fewer if there are no two."""
    rows = sorted([(weights[key], key) for key, cap in enumerate(caps) if cap > 0], reverse=True)
    return [key for _, key in rows[:2]]


def enough_slack(caps, weights):
    """The least number such that, with high at least so much above low, the allowed tuples are always joined."""
    keys = _two_heaviest(caps, weights)
    return 0 if len(keys) < 2 else weights[keys[0]] + weights[keys[1]] - 1


def slack_cut(caps, weights):
    """A low, and a cut for it and a high that is above it by one less than enough slack; None if no slack is needed."""
    keys = _two_heaviest(caps, weights)
    if len(keys) < 2:
        return None
    one, other = [tuple([int(at == key) for at in range(len(caps))]) for key in keys]
    return 1, one, other
