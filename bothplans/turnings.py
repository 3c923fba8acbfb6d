"""The keys on which an answer rests: those whose change alone turns it."""

from bothplans.chains import is_joined
from bothplans.errors import Refused
from bothplans.groups import first_unlike, key_groups
from bothplans.questions import are_unlike, checked_question
from bothplans.stores import checked_lot, differing, is_state_pair, states_at


def rests_on(store, question):
    """The keys that turn the question; Refused(0) if the store is not joined."""
    if not is_joined(store):
        raise Refused(0)
    asked = checked_question(store, question)
    return tuple([key for key in range(store.key_count) if _first_turn(store, asked, key) is not None])


def turning_paper(store, question):
    """For each key that turns the question the first two neighbours that differ in it, with unlike answers."""
    asked = checked_question(store, question)
    turns = [_first_turn(store, asked, key) for key in range(store.key_count)]
    return tuple([turn for turn in turns if turn is not None])


def _first_turn(store, question, key):
    places = first_unlike(key_groups(store, key), question)
    return None if places is None else states_at(store, places)


def is_turning_paper(store, question, lot, value):
    """Whether any value is, for each key of the lot, two states that differ in it alone, with unlike answers."""
    asked = checked_question(store, question)
    keys = checked_lot(store, lot)
    if not isinstance(value, tuple) or len(value) != len(keys):
        return False
    return all([_is_turn(store, asked, key, pair) for key, pair in zip(keys, value)])


def _is_turn(store, question, key, value):
    if not is_state_pair(store, value):
        return False
    one, other = value
    return differing(one, other) == (key,) and are_unlike(store, question, one, other)
