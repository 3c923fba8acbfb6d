"""Levels: rules that want a key to be at least at some level where another one is at least at some level."""

from bothplans.errors import InvalidQuestion, InvalidState, InvalidStore, Refused
from bothplans.kinds import are_sizes, is_number, is_row, is_sequence


class Levels:
    """Keys with so many values each, and rules (i, p, j, q): where key i is at least p, key j is at least q."""

    def __init__(self, sizes, rules):
        if not are_sizes(sizes):
            raise InvalidStore(0)
        if not is_sequence(rules):
            raise InvalidStore(1)
        for at, rule in enumerate(rules):
            if not _is_rule(sizes, rule):
                raise InvalidStore(2 + at)
        self.key_count = len(sizes)
        self.sizes = tuple(sizes)
        self.rules = tuple([tuple(rule) for rule in rules])
        bottom = _checked_bottom(self.sizes, self.rules)
        # Each allowed row is the upper one of some of these: so they tell which rows are allowed.
        self._floors = tuple([_floors_of(self.sizes, self.rules, bottom, key) for key in range(self.key_count)])

    def __eq__(self, other):
        return isinstance(other, Levels) and self.sizes == other.sizes and self._floors == other._floors


def _is_rule(sizes, value):
    if not is_sequence(value) or len(value) != 4:
        return False
    one, level, other, least = value
    return _is_at_most_top(sizes, one, level) and _is_at_most_top(sizes, other, least)


def _is_at_most_top(sizes, key, level):
    return is_number(key) and key < len(sizes) and is_number(level) and level <= sizes[key]


def _checked_bottom(sizes, rules):
    """The allowed row that is least in each key; Refused with the index of the first rule that leaves no row."""
    bottom = tuple([0] * len(sizes))
    for at in range(len(rules)):
        bottom = _raised(sizes, rules[:at + 1], bottom)
        if bottom is None:
            raise Refused(at)
    return bottom


def _broken_rule(rules, row):
    """The first rule that a row does not keep; None if it keeps all."""
    for rule in rules:
        one, level, other, least = rule
        if row[one] >= level and row[other] < least:
            return rule
    return None


def _raised(sizes, rules, row):
    """The least row that keeps the rules and is nowhere less than a row; None if there is none."""
    found = list(row)
    rule = _broken_rule(rules, found)
    while rule is not None:
        _, _, other, least = rule
        if least == sizes[other]:
            return None
        found[other] = least
        rule = _broken_rule(rules, found)
    return tuple(found)


def _lowered(rules, row):
    """The greatest row that keeps the rules and is nowhere greater than a row; None if there is none."""
    found = list(row)
    rule = _broken_rule(rules, found)
    while rule is not None:
        one, level, _, _ = rule
        if level == 0:
            return None
        found[one] = level - 1
        rule = _broken_rule(rules, found)
    return tuple(found)


def _floors_of(sizes, rules, bottom, key):
    """For each value of a key the least allowed row in which the key is at least at it, or None."""
    floors = [bottom]
    for level in range(1, sizes[key]):
        below = floors[-1]
        floors.append(None if below is None else _raised(sizes, rules, _raised_to(below, key, level)))
    return tuple(floors)


def _raised_to(row, key, level):
    """A row with a key raised to a level, if it is not at least there."""
    return row[:key] + (max(row[key], level),) + row[key + 1:]


def floor(levels, key, level):
    """The least allowed row in which a key is at least at a level below its size; None if there is none."""
    return levels._floors[key][level]


def bottom_row(levels):
    """The allowed row that is least in each key."""
    return floor(levels, 0, 0)


def is_allowed_row(levels, value):
    """Whether any value is a sequence of the values of an allowed row."""
    return is_row(value, levels.sizes) and _broken_rule(levels.rules, value) is None


def keeps_rules(levels, value):
    """Whether any value is an allowed row."""
    return isinstance(value, tuple) and is_allowed_row(levels, value)


def _checked_row(levels, value):
    if not is_row(value, levels.sizes):
        raise InvalidState(0)
    return tuple(value)


def lowest(levels, row):
    """The least of the allowed rows that are nowhere less than a row; None if there are none."""
    return _raised(levels.sizes, levels.rules, _checked_row(levels, row))


def highest(levels, row):
    """The greatest of the allowed rows that are nowhere greater than a row; None if there are none."""
    return _lowered(levels.rules, _checked_row(levels, row))


def breach(levels, rule):
    """The least of the allowed rows that do not keep a rule; None if all keep it."""
    if not _is_rule(levels.sizes, rule):
        raise InvalidQuestion(0)
    one, level, other, least = rule
    row = None if level == levels.sizes[one] else floor(levels, one, level)
    # If this row keeps the rule, so does each one above it.
    return None if row is None or row[other] >= least else row


def lower_row(one, other):
    """The row that has the lesser value of each key of two rows."""
    return tuple([min(value, other_value) for value, other_value in zip(one, other)])


def upper_row(one, other):
    """The row that has the greater value of each key of two rows."""
    return tuple([max(value, other_value) for value, other_value in zip(one, other)])
