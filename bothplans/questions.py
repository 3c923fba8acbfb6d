"""Questions to a store: a number for each of its states."""

from bothplans.errors import InvalidLot, InvalidQuestion
from bothplans.groups import key_groups, places_by_label
from bothplans.kinds import is_number, is_sequence
from bothplans.stores import checked_state, is_key, place_of, states_at


def is_question(store, value):
    """Whether any value is a question, as a tuple."""
    return isinstance(value, tuple) and _has_all_answers(store, value)


def _has_all_answers(store, value):
    return len(value) == len(store.states) and all([is_number(entry) for entry in value])


def checked_question(store, value):
    """Any value as a question; InvalidQuestion(0) for what is none."""
    if not is_sequence(value) or not _has_all_answers(store, value):
        raise InvalidQuestion(0)
    return tuple(value)


def answer(store, question, state):
    """What is answered in a state."""
    asked = checked_question(store, question)
    return asked[place_of(store, checked_state(store, state))]


def are_unlike(store, question, one, other):
    """Whether two states have unlike answers; all is checked already."""
    return question[place_of(store, one)] != question[place_of(store, other)]


def value_question(store, key):
    """The question for the value of a key; InvalidLot(0) for what is none."""
    if not is_key(store, key):
        raise InvalidLot(0)
    return tuple([state[key] for state in store.states])


def classes(store, question):
    """The states, those with one answer together."""
    groups = places_by_label(checked_question(store, question))
    return tuple([states_at(store, group) for group in groups])


def turning(store, question):
    """The pairs of neighbours, the first less than the second, with unlike answers."""
    asked = checked_question(store, question)
    pairs = []
    for key in range(store.key_count):
        for group in key_groups(store, key):
            pairs.extend(_unlike_pairs(asked, group))
    return tuple([states_at(store, pair) for pair in sorted(pairs)])


def _unlike_pairs(question, group):
    return [(one, other) for one in group for other in group if one < other and question[one] != question[other]]
