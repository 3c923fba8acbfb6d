"""Linear rules: sums modulo a prime that the values of all states keep to."""

from bothplans.errors import InvalidStore, Refused
from bothplans.kinds import is_number, is_row, is_sequence
from bothplans.reducing import cleared, free_keys, freed, lead_of, plus, summed, widened
from bothplans.stores import Store


class LinearRules:
    """The rows of values below a prime that obey some linear rules."""

    def __init__(self, prime, keys, rules):
        if not is_number(prime) or prime not in (2, 3, 5, 7, 11, 13):
            raise InvalidStore(0)
        if not is_number(keys) or keys < 1 or keys > 12:
            raise InvalidStore(1)
        if not is_sequence(rules):
            raise InvalidStore(2)
        for at, rule in enumerate(rules):
            if not is_row(rule, [prime] * (keys + 1)):
                raise InvalidStore(3 + at)
        self.prime = prime
        self.key_count = keys
        self.rules = tuple(sorted(_reduced_rules(prime, list(range(keys)), rules)))

    def __eq__(self, other):
        if not isinstance(other, LinearRules):
            return False
        return self.prime == other.prime and self.key_count == other.key_count and self.rules == other.rules


def _reduced_rules(prime, keys, rules):
    found = []
    for at, rule in enumerate(rules):
        rest = cleared(prime, found, tuple(rule), keys)
        if lead_of(rest, keys) is None and rest[-1] != 0:
            raise InvalidStore(3 + at)
        found = widened(prime, found, rest, keys)
    return found


def keys_of(system):
    """All keys, in their order."""
    return list(range(system.key_count))


def is_numbers(system, value):
    """Whether any value is a sequence of a number below the prime for each key."""
    return is_row(value, [system.prime] * system.key_count)


def is_rule(system, value):
    """Whether any value is a sequence that is a linear rule as a tuple."""
    return is_row(value, [system.prime] * (system.key_count + 1))


def rule_rest(system, rule):
    """What is left of a linear rule without the leads of the reduced ones: all states, or none, obey both alike."""
    return cleared(system.prime, system.rules, rule, keys_of(system))


def obeys(system, value):
    """Whether any value is a row that obeys all rules."""
    if not isinstance(value, tuple) or not is_numbers(system, value):
        return False
    return all([summed(system.prime, value, rule) == rule[-1] for rule in system.rules])


def freedom(system):
    """The number of keys that are no lead."""
    return system.key_count - len(system.rules)


def linear_store(system):
    """The store of the rows that obey all rules; Refused(0) if it would be too large."""
    if system.key_count > 8 or system.prime > 7:
        raise Refused(0)
    states = [_first_state(system)]
    for key in free_keys(system.rules, keys_of(system)):
        change = freed(system.prime, system.rules, keys_of(system), key)
        states = [plus(system.prime, state, factor, change) for state in states for factor in range(system.prime)]
        if len(states) > 300:
            raise Refused(0)
    return Store([system.prime] * system.key_count, states)


def _first_state(system):
    """The state that is 0 at all keys that are no lead."""
    values = [0] * system.key_count
    for rule in system.rules:
        values[lead_of(rule, keys_of(system))] = rule[-1]
    return tuple(values)
