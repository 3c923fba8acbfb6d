"""Changes of budgets: one key at a time, from state to state."""

from bothplans.budgets import budget_states, unfixed_keys
from bothplans.errors import Refused
from bothplans.residues import rounded_up
from bothplans.roots import tying_of
from bothplans.stores import differing


def budget_bundles(budget):
    """The finest tying of the states: if just one sum is allowed, all free keys are one bundle."""
    tied = [] if budget.low < budget.high else [unfixed_keys(budget)]
    return tying_of(budget.key_count, tied)


def step_towards(budget, one, other):
    """Some state that differs from the first in one key, which is as far towards the second as can be; None if equal.

    Refused(0) if there is no such state.
    """
    first, last = budget_states(budget, one, other)
    if first == last:
        return None
    for key in differing(first, last):
        value = _farthest(budget, first, key, last[key])
        if value != first[key]:
            return first[:key] + (value,) + first[key + 1:]
    raise Refused(0)


def _farthest(budget, state, key, goal):
    """The value of a key nearest to a goal with which, all other values kept, a state is still one."""
    others = sum(state) - state[key]
    return max(budget.low - others, min(goal, budget.high - others))


def changes_needed(budget, one, other):
    """The least number of changes from state to state that lead from one to another one; None if none do.

    Only keys are changed in which the two differ; Refused(0) if these are more than two.
    """
    first, last = budget_states(budget, one, other)
    keys = differing(first, last)
    if len(keys) > 2:
        raise Refused(0)
    rise = sum([max(0, last[key] - first[key]) for key in keys])
    fall = sum([max(0, first[key] - last[key]) for key in keys])
    if rise == 0 or fall == 0:
        return len(keys)
    slack = budget.high - budget.low
    if slack == 0:
        return None
    total = sum(first)
    return min(_changes(slack, budget.high - total, rise, fall), _changes(slack, total - budget.low, fall, rise))


def _changes(slack, room, way, other_way):
    """The changes needed if a key with some way to go begins, at first as far as there is room, and another follows.

    Then each change goes as far as the slack, by turns, until one of the two keys is where it should be: the other one
    gets there by the next change.
    """
    by_first = rounded_up(max(0, way - room), slack)
    by_other = rounded_up(other_way, slack)
    return min(2 * by_first + 2, 2 * by_other + 1)
