"""Further linear rules: what they say of the states, and which bundles they touch."""

from bothplans.errors import InvalidStore, Refused
from bothplans.linear import LinearRules, is_rule, keys_of, rule_rest
from bothplans.linearbundles import linear_bundles
from bothplans.reducing import lead_of
from bothplans.stores import checked_lot


def _checked_rule(system, value):
    if not is_rule(system, value):
        raise InvalidStore(0)
    return tuple(value)


def told_rule(system, further):
    """True if all states obey a further rule, False if none does, else None."""
    rest = rule_rest(system, _checked_rule(system, further))
    if lead_of(rest, keys_of(system)) is not None:
        return None
    return rest[-1] == 0


def with_rule(system, further):
    """The linear rules for the states that obey a further one; Refused(0) if none does."""
    if told_rule(system, further) is False:
        raise Refused(0)
    return LinearRules(system.prime, system.key_count, system.rules + (tuple(further),))


def touched(system, further):
    """The bundles over whose keys not all states have one sum of their values times the factors."""
    rule = _checked_rule(system, further)
    return tuple([bundle for bundle in linear_bundles(system) if _touches(system, rule, bundle)])


def _touches(system, rule, bundle):
    within = tuple([factor if key in bundle else 0 for key, factor in enumerate(rule)])
    return lead_of(rule_rest(system, within), keys_of(system)) is not None


def tying_rule(system, lot):
    """Some rule that touches just the bundles with a key of the lot, if these are two or more; else None."""
    keys = checked_lot(system, lot)
    bundles = [bundle for bundle in linear_bundles(system) if any([key in bundle for key in keys])]
    # The value of one key of a bundle is enough: it is not the same in all states, unless the bundle is this key alone.
    firsts = [bundle[0] for bundle in bundles]
    rule = tuple([int(key in firsts) for key in range(system.key_count)] + [0])
    if len(bundles) < 2 or touched(system, rule) != tuple(bundles):
        return None
    return rule
