"""Sheets: kinds of evidence with the question that they answer."""

from bothplans.chains import chain, is_chain
from bothplans.errors import InvalidQuestion, PlanError, Refused
from bothplans.kinds import is_sequence
from bothplans.knots import finest_paper, is_finest_paper, is_tying_fault, tying_fault
from bothplans.least import is_least_paper, least_paper
from bothplans.stores import Store
from bothplans.telling import fault, is_fault
from bothplans.torn import are_torn_plans, torn_plans


def _kinds():
    """For each kind of sheet how many things its question has, and what makes and what checks a value."""
    return {
        "fault": (3, fault, is_fault),
        "least": (3, least_paper, is_least_paper),
        "chain": (3, chain, is_chain),
        "torn": (1, torn_plans, are_torn_plans),
        "bundles": (1, finest_paper, is_finest_paper),
        "tying": (2, tying_fault, is_tying_fault),
    }


def _is_kind(value):
    return isinstance(value, str) and value in _kinds()


def _is_question(count, value):
    """Whether any value is a tuple of so many things, the first of which is a store."""
    return isinstance(value, tuple) and len(value) == count and isinstance(value[0], Store)


def sheet_holds(value):
    """Whether any value is a sheet that holds."""
    if not isinstance(value, tuple) or len(value) != 3:
        return False
    name, question, shown = value
    if not _is_kind(name):
        return False
    count, _, checker = _kinds()[name]
    if not _is_question(count, question):
        return False
    try:
        return checker(*question, shown)
    except PlanError:
        return False


def sheet(name, question):
    """A sheet of a kind that holds, for a question; Refused if there is no such kind, question or value."""
    if not _is_kind(name):
        raise Refused(0)
    count, maker, _ = _kinds()[name]
    if not _is_question(count, question):
        raise Refused(1)
    shown = maker(*question)
    if shown is None:
        raise Refused(2)
    return name, _copied(question), shown


def _copied(value):
    """A value with all lists in it copied."""
    if isinstance(value, list):
        return [_copied(entry) for entry in value]
    if isinstance(value, tuple):
        return tuple([_copied(entry) for entry in value])
    return value


def wrong_sheets(values):
    """The indexes of those of a sequence that are no sheets that hold."""
    if not is_sequence(values):
        raise InvalidQuestion(0)
    return tuple([at for at, value in enumerate(values) if not sheet_holds(value)])
