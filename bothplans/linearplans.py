"""Rows of numbers as questions to linear rules: what shows that a lot tells them, or that it does not."""

from bothplans.errors import InvalidQuestion
from bothplans.further import told_rule
from bothplans.linear import is_numbers, is_rule, keys_of
from bothplans.linearbundles import is_change
from bothplans.reducing import freed, lead_of, plus, reduced, summed, unit_row
from bothplans.stores import checked_lot, is_key, is_lot, keys_outside


def row_evidence(system, row, lot):
    """A rule that shows that the lot tells what the row asks, or a change that shows that it does not."""
    asked = _checked_row(system, row)
    others = list(keys_outside(system, checked_lot(system, lot)))
    # With the leads sought among the other keys alone, each of these rules is wanted as often as the row has its lead.
    order = others + [key for key in keys_of(system) if key not in others]
    rules = [rule for rule in reduced(system.prime, system.rules, order) if lead_of(rule, others) is not None]
    combined = tuple([0] * (system.key_count + 1))
    for rule in rules:
        combined = plus(system.prime, combined, asked[lead_of(rule, others)], rule)
    for key in others:
        if combined[key] != asked[key]:
            return "change", freed(system.prime, [rule[:-1] for rule in rules], order, key)
    return "rule", combined


def _checked_row(system, value):
    if not is_numbers(system, value):
        raise InvalidQuestion(0)
    return tuple(value)


def is_row_evidence(system, row, lot, value):
    """Whether any value is evidence for a row and a lot, of either kind."""
    asked = _checked_row(system, row)
    others = keys_outside(system, checked_lot(system, lot))
    if not isinstance(value, tuple) or len(value) != 2 or not isinstance(value[0], str):
        return False
    kind, shown = value
    if kind == "rule":
        return _is_told_rule(system, shown) and all([shown[key] == asked[key] for key in others])
    return kind == "change" and _is_change_within(system, shown, others) and summed(system.prime, shown, asked) != 0


def _is_told_rule(system, value):
    return isinstance(value, tuple) and is_rule(system, value) and told_rule(system, value) is True


def _is_change_within(system, value, lot):
    return is_change(system, value) and all([value[key] == 0 or key in lot for key in range(system.key_count)])


def two_plans(system):
    """Some key, a lot without it that tells its value, and a change that has it; None if there are none."""
    keys = keys_of(system)
    for rule in system.rules:
        key = lead_of(rule, keys)
        lot = tuple([other for other in keys if other != key and rule[other] != 0])
        if lot:
            return key, lot, freed(system.prime, [other[:-1] for other in system.rules], keys, lot[0])
    return None


def is_two_plans(system, value):
    """Whether any value is a key, a lot without it that tells its value, and a change that has it."""
    if not isinstance(value, tuple) or len(value) != 3:
        return False
    key, lot, change = value
    if not is_key(system, key) or not is_lot(system, lot) or key in lot:
        return False
    if not is_change(system, change) or change[key] == 0:
        return False
    kind, _ = row_evidence(system, unit_row(system.key_count, key), lot)
    return kind == "rule"
