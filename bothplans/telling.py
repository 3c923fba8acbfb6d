"""Which lots of keys tell a question."""

from bothplans.errors import Refused
from bothplans.questions import are_unlike, checked_question
from bothplans.stores import checked_lot, is_state_pair, states_at, view, views


def tells(store, question, lot):
    """Whether any two states that agree on all keys of the lot have one answer."""
    return fault(store, question, lot) is None


def fault(store, question, lot):
    """Some two states that agree on the lot, but have unlike answers; None if there are none."""
    asked = checked_question(store, question)
    return unlike_pair(store, asked, checked_lot(store, lot))


def unlike_pair(store, question, lot):
    """Some fault of a lot, the first state less than the second, or None; all is checked already."""
    firsts = {}
    for place, seen in enumerate(views(store, lot)):
        first = firsts.setdefault(seen, place)
        if question[first] != question[place]:
            return states_at(store, (first, place))
    return None


def is_fault(store, question, lot, value):
    """Whether any value is a fault of the lot."""
    asked = checked_question(store, question)
    keys = checked_lot(store, lot)
    if not is_state_pair(store, value):
        return False
    one, other = value
    return one < other and view(one, keys) == view(other, keys) and are_unlike(store, asked, one, other)


def plan_table(store, question, lot):
    """Pairs of each view on the lot and the answer there; Refused(0) if the lot does not tell."""
    asked = checked_question(store, question)
    keys = checked_lot(store, lot)
    if unlike_pair(store, asked, keys) is not None:
        raise Refused(0)
    table = {seen: asked[place] for place, seen in enumerate(views(store, keys))}
    return tuple(sorted(table.items()))
