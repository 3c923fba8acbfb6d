"""What hangs together: for each of some things, told by their indexes, the least one that hangs together with it."""

from bothplans.groups import places_by_label


def joined_roots(roots, pairs):
    """These roots, when besides what hangs together already the two things of each pair do."""
    parents = list(roots)
    for one, other in pairs:
        first = _root(parents, one)
        second = _root(parents, other)
        parents[max(first, second)] = min(first, second)
    # No parent is greater than its thing: so the roots of those before are known already.
    for place in range(len(parents)):
        parents[place] = parents[parents[place]]
    return parents


def _root(parents, place):
    while parents[place] != place:
        parents[place] = parents[parents[place]]
        place = parents[place]
    return place


def numbered(roots):
    """For each thing the index of what it hangs together with, in the order of the least things."""
    numbers = {}
    for root in roots:
        numbers.setdefault(root, len(numbers))
    return tuple([numbers[root] for root in roots])


def tying_of(count, lots):
    """The tying of so many keys in which just those are in one bundle that hang together by the lots."""
    pairs = [(lot[0], key) for lot in lots for key in lot]
    return tuple(places_by_label(joined_roots(list(range(count)), pairs)))
