"""Which answers are sure, when some lots tell a question and some of its answers are known."""

from bothplans.answers import is_told_answer
from bothplans.errors import InvalidQuestion, Refused
from bothplans.kinds import is_sequence
from bothplans.stores import place_of, states_at
from bothplans.sure import alike_roots, checked_lots


def sure_answers(store, lots, known):
    """For each state its answer in each question that the lots tell and that has the known answers, or None."""
    roots, answers = _answers_by_root(store, lots, known)
    return tuple([answers.get(root) for root in roots])


def asks_left(store, lots, known):
    """The first state of each class of states that are surely alike and of which no answer is known."""
    roots, answers = _answers_by_root(store, lots, known)
    return states_at(store, [place for place, root in enumerate(roots) if place == root and root not in answers])


def _answers_by_root(store, lots, known):
    """For each place the least one that is surely alike, and for these the known answers; Refused if there are two."""
    plans = checked_lots(store, lots)
    _check_known(store, known)
    roots = alike_roots(store, plans)
    answers = {}
    for at, (state, answer) in enumerate(known):
        root = roots[place_of(store, tuple(state))]
        if answers.setdefault(root, answer) != answer:
            raise Refused(at)
    return roots, answers


def _check_known(store, known):
    if not is_sequence(known):
        raise InvalidQuestion(0)
    for at, entry in enumerate(known):
        if not is_told_answer(store, entry):
            raise InvalidQuestion(at)
