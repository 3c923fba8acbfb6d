"""Torn plans: two plans for one question whose common keys do not tell it."""

from bothplans.islands import island_question, unwhole
from bothplans.questions import are_unlike, is_question
from bothplans.stores import is_lot, is_state, keys_outside, view
from bothplans.telling import tells, unlike_pair


def torn_plans(store):
    """Some two states, two lots and a question that are torn plans; None if there are none."""
    lots = unwhole(store)
    if not lots:
        return None
    # Of a least such lot each lot of fewer of its keys is whole: so all other keys than those tell its islands.
    lot = min(lots, key=len)
    question = island_question(store, lot)
    one, other = unlike_pair(store, question, keys_outside(store, lot))
    return one, other, keys_outside(store, lot[:1]), keys_outside(store, lot[1:]), question


def are_torn_plans(store, value):
    """Whether any value is torn plans."""
    if not isinstance(value, tuple) or len(value) != 5:
        return False
    one, other, lot, other_lot, question = value
    if not is_state(store, one) or not is_state(store, other) or not is_question(store, question):
        return False
    if not is_lot(store, lot) or not is_lot(store, other_lot):
        return False
    common = [key for key in lot if key in other_lot]
    if view(one, common) != view(other, common) or not are_unlike(store, question, one, other):
        return False
    return tells(store, question, lot) and tells(store, question, other_lot)
