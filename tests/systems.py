"""Linear rules, levels and budgets to try things on."""

import itertools
import random

from bothplans.budgets import Budget
from bothplans.errors import InvalidStore, Refused
from bothplans.levels import Levels
from bothplans.linear import LinearRules


def random_rules(chance, prime, keys, count):
    """So many linear rules with few keys each, some of them twice or summed of others."""
    rules = []
    for _ in range(count):
        if rules and chance.random() < 0.2:
            rules.append(chance.choice(rules))
            continue
        rule = [0] * keys
        for key in chance.sample(range(keys), chance.randrange(1, min(keys, 3) + 1)):
            rule[key] = chance.randrange(prime)
        rules.append(tuple(rule) + (chance.randrange(prime),))
    return rules


def systems(seed, primes_and_keys, count):
    """Pairs of some linear rules as told, and as an object; rules that no row obeys are left out."""
    chance = random.Random(seed)
    for prime, keys in primes_and_keys:
        yield (), LinearRules(prime, keys, ())
        for _ in range(count):
            rules = random_rules(chance, prime, keys, chance.randrange(keys + 2))
            try:
                yield rules, LinearRules(prime, keys, rules)
            except InvalidStore:
                continue


def small_systems():
    return systems(27, [(2, 1), (2, 3), (2, 4), (2, 5), (3, 2), (3, 3), (3, 4), (5, 2), (5, 3), (7, 2), (11, 2), (13, 2)], 9)


def large_systems():
    """At the limits: 12 keys modulo 13, up to 24 rules."""
    chance = random.Random(12)
    yield LinearRules(13, 12, [])
    for groups in ([range(12)], [range(5), range(5, 12)], [range(3), range(3, 6), range(6, 9), range(9, 12)]):
        hidden = [chance.randrange(13) for _ in range(12)]
        for many in (1, 2, 6):
            rules = []
            for _ in range(many):
                group = chance.choice(groups)
                keys = [key for key in group if chance.randrange(3)]
                rule = [chance.randrange(1, 13) if key in keys else 0 for key in range(12)]
                rules.append(rule + [sum(map(int.__mul__, rule, hidden)) % 13])
            while len(rules) < 24:
                one, other, factor = chance.choice(rules), chance.choice(rules), chance.randrange(13)
                rules.append([(value + factor * more) % 13 for value, more in zip(one, other)])
            yield LinearRules(13, 12, rules)
    yield LinearRules(13, 12, [[int(key == at) for key in range(12)] + [at] for at in range(12)] * 2)


def random_levels_rules(chance, sizes, count):
    rules = []
    for _ in range(count):
        one, other = chance.randrange(len(sizes)), chance.randrange(len(sizes))
        level = chance.randrange(1, sizes[one] + 1) if chance.random() < 0.8 else chance.randrange(sizes[one] + 1)
        least = chance.randrange(sizes[other]) if chance.random() < 0.8 else chance.randrange(sizes[other] + 1)
        rules.append((one, level, other, least))
    return rules


def small_levels():
    """Pairs of some rules of levels as told, and as an object; rules that leave no row are left out."""
    chance = random.Random(31)
    for sizes in ([2], [4], [1, 1], [2, 2], [3, 2], [3, 3], [1, 4, 2], [2, 2, 2], [3, 3, 2], [4, 3, 3], [2, 2, 2, 2], [3, 2, 1, 3]):
        yield (), Levels(sizes, ())
        for _ in range(12):
            rules = random_levels_rules(chance, sizes, chance.randrange(1, 8))
            try:
                yield rules, Levels(sizes, rules)
            except Refused:
                continue


def large_levels():
    """At the limits: 12 keys, 20 values, 40 rules."""
    chance = random.Random(20)
    chain = [(key, level, key + 1, level) for key, level in itertools.product(range(11), (3, 9, 19))]
    around = [(key, 10, (key + 1) % 12, 10) for key in range(12)]
    yield Levels([20] * 12, chain + chain[:7])
    yield Levels([20] * 12, (chain + [(11, 3, 0, 1)])[::-1])
    yield Levels([20] * 12, around * 3 + [(3, 19, 4, 12), (0, 0, 5, 2), (7, 18, 7, 20), (1, 0, 1, 0)])
    yield Levels([20] * 12, [(key, 19 - key, (key + 5) % 12, 12 - key) for key in range(12)] * 3)
    while True:
        rules = [(chance.randrange(12), chance.randrange(1, 21), chance.randrange(12), chance.randrange(20)) for _ in range(40)]
        yield Levels([20] * 12, rules)
        if chance.random() < 0.2:
            return


def budget_rows(caps, low, high):
    """The states of a budget."""
    rows = itertools.product(*[range(cap + 1) for cap in caps])
    return [row for row in rows if low <= sum(row) <= high]


def caps_and_spans():
    """Caps with low and high, also such that leave no state, or go beyond what the states reach."""
    for caps in ([0], [3], [0, 0], [1, 1], [2, 3], [0, 4], [1, 2, 3], [2, 0, 2], [1, 1, 1, 1], [7, 0, 1, 0, 2]):
        for low, high in itertools.product(range(sum(caps) + 2), range(sum(caps) + 3)):
            yield caps, low, high


def small_budgets():
    """Pairs of a budget and its states."""
    for caps, low, high in caps_and_spans():
        rows = budget_rows(caps, low, high)
        if rows:
            yield Budget(caps, low, high), rows
