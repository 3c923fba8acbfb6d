"""What the tests share: strict comparison, refusals, odd values, and stores to try things on."""

import itertools
import random
import unittest

from bothplans.stores import Store


class PlanCase(unittest.TestCase):
    def same(self, got, wanted):
        """Equal, and of the same kinds throughout: no list for a tuple, no True for 1."""
        self.assertEqual(repr(got), repr(wanted))

    def refuses(self, error, at, function, *args, **named):
        with self.assertRaises(error) as caught:
            function(*args, **named)
        self.assertIs(type(caught.exception), error)
        self.same(caught.exception.at, at)


class Unfriendly:
    """Cannot be compared, hashed or measured."""

    __hash__ = None

    def __eq__(self, other):
        raise RuntimeError("compared")

    def __lt__(self, other):
        raise RuntimeError("compared")

    def __len__(self):
        raise RuntimeError("measured")

    def __iter__(self):
        raise RuntimeError("iterated")

    def __bool__(self):
        raise RuntimeError("tested")


def endless_list():
    row = []
    row.append(row)
    return row


def no_sequences():
    """Values that are no sequences, some of which look like one."""
    return [
        None, True, False, 0, 1, -1, 7, 0.0, 1.5, float("nan"), 1j, "", "0", "01", b"", b"\x00", bytearray(b"\x00"),
        {}, {0: 0}, {0}, set(), frozenset([0, 1]), range(0), range(1), range(2), iter([0]), (k for k in (0, 1)),
        object(), Unfriendly(), Store, Store([2], [[0]]), len, Ellipsis, NotImplemented, ValueError(),
    ]


def no_numbers():
    """Values that are no numbers, some of which equal one."""
    return [True, False, -1, -(10 ** 20), 0.0, 1.0, 0j, None, "0", b"0", "", [], (), [0], (0,), {}, {0}, object(),
            Unfriendly(), float("nan"), endless_list()]


def no_entries():
    """Values that are neither numbers nor good as states, lots or pairs of a small store."""
    return no_sequences() + no_numbers() + [endless_list(), [Unfriendly()], (Unfriendly(),), ([],), ((),), [None]]


def as_lists(value):
    if isinstance(value, (list, tuple)):
        return [as_lists(entry) for entry in value]
    return value


def as_tuples(value):
    if isinstance(value, (list, tuple)):
        return tuple(as_tuples(entry) for entry in value)
    return value


def all_rows(sizes):
    return list(itertools.product(*[range(size) for size in sizes]))


def full_store(*sizes):
    return Store(sizes, all_rows(sizes))


def all_stores(sizes):
    """All stores with these sizes."""
    rows = all_rows(sizes)
    for count in range(1, len(rows) + 1):
        for states in itertools.combinations(rows, count):
            yield Store(sizes, states)


def some_stores(seed, sizes, counts):
    """Stores with these sizes and these numbers of states."""
    chance = random.Random(seed)
    rows = all_rows(sizes)
    for count in counts:
        yield Store(sizes, chance.sample(rows, count))


def small_stores():
    """Many small stores of several shapes."""
    yield from all_stores([2, 2])
    yield from all_stores([3, 2])
    yield from all_stores([1, 4])
    yield from list(all_stores([2, 2, 2]))[::3]
    yield from some_stores(1, [3, 3], [1, 2, 3, 4, 5, 6, 7, 8, 9])
    yield from some_stores(2, [3, 2, 3], [2, 4, 6, 8, 9, 10, 12, 14, 16])
    yield from some_stores(3, [2, 2, 2, 2], [2, 3, 4, 5, 6, 8, 8, 9, 10, 11, 12, 13, 14, 15])
    yield from some_stores(4, [2, 1, 3, 2], [1, 3, 5, 6, 7, 8, 9, 10, 11])


def some_questions(store, seed=0):
    """A few questions of each sort: one answer, all unlike, two answers, three answers, great numbers."""
    chance = random.Random(seed * 1000 + len(store.states))
    count = len(store.states)
    yield (4,) * count
    yield tuple(range(count))
    yield tuple(10 ** 40 - place // 2 for place in range(count))
    for answers in (2, 2, 3):
        yield tuple(chance.randrange(answers) for _ in range(count))
    key = chance.randrange(store.key_count)
    yield tuple(int(state[key] > 0) for state in store.states)


def limit_stores():
    """Stores at the limits: 8 keys, values up to 7, 300 states."""
    chance = random.Random(8)
    scattered = set()
    while len(scattered) < 300:
        scattered.add(tuple(chance.randrange(8) for _ in range(8)))
    few = [row for row in all_rows([3] * 8) if sum(row) <= 3][:300]
    wide = all_rows([8, 8, 5, 1, 1, 1, 1, 1])[:300]
    most = chance.sample(all_rows([2] * 8), 250)
    return [Store([8] * 8, list(scattered)), Store([3] * 8, few), Store([8, 8, 5, 1, 1, 1, 1, 1], wide),
            full_store(2, 2, 2, 2, 2, 2, 2, 2), Store([2] * 8, most)]
