"""Rows of numbers below a prime, with sums taken modulo it.

A row has a number for each key, and perhaps further ones behind them. Rows are reduced if the first key that each has,
in some order of the keys, its lead, has 1 there, and 0 in all others.
"""


def inverse(prime, number):
    """What a number has to be taken times to give 1."""
    return [other for other in range(prime) if number * other % prime == 1][0]


def times(prime, factor, row):
    """A row, each number of it taken so many times."""
    return tuple([factor * value % prime for value in row])


def plus(prime, row, factor, other):
    """A row with another one added to it so many times."""
    return tuple([(value + factor * added) % prime for value, added in zip(row, other)])


def summed(prime, row, other):
    """The sum of the numbers of a row, each times that of the other row, as far as the shorter one goes."""
    return sum([value * factor for value, factor in zip(row, other)]) % prime


def lead_of(row, keys):
    """The first of some keys that a row has; None if it has none of them."""
    for key in keys:
        if row[key] != 0:
            return key
    return None


def cleared(prime, rows, row, keys):
    """A row less so much of reduced rows that it has none of their leads."""
    rest = row
    for other in rows:
        rest = plus(prime, rest, -row[lead_of(other, keys)], other)
    return rest


def widened(prime, rows, row, keys):
    """Reduced rows with a further one, which are reduced again; unaltered if nothing of the further one is left."""
    rest = cleared(prime, rows, row, keys)
    lead = lead_of(rest, keys)
    if lead is None:
        return rows
    unit = times(prime, inverse(prime, rest[lead]), rest)
    return [plus(prime, other, -other[lead], unit) for other in rows] + [unit]


def reduced(prime, rows, keys):
    """Some rows, reduced; what has no key is left out."""
    found = []
    for row in rows:
        found = widened(prime, found, row, keys)
    return found


def unit_row(count, key):
    """The row of so many numbers that is 1 at a key and 0 elsewhere."""
    return tuple([int(other == key) for other in range(count)])


def free_keys(rows, keys):
    """The keys that are no lead of reduced rows."""
    leads = [lead_of(row, keys) for row in rows]
    return [key for key in keys if key not in leads]


def freed(prime, rows, keys, key):
    """The row for all keys that is 1 at a key that is no lead, 0 at all others, and sums to 0 with each reduced row."""
    values = list(unit_row(len(keys), key))
    for row in rows:
        values[lead_of(row, keys)] = -row[key] % prime
    return tuple(values)
