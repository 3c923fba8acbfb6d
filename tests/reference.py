"""What the document defines, word by word and by brute force, for small stores. Nothing here is quick."""

import itertools


def lots(count):
    keys = range(count)
    found = []
    for size in range(count + 1):
        found.extend(itertools.combinations(keys, size))
    return sorted(found)


def answers(store, question):
    return dict(zip(store.states, question))


def agree(one, other, lot):
    return all(one[key] == other[key] for key in lot)


def apart(one, other):
    return tuple(key for key in range(len(one)) if one[key] != other[key])


def are_neighbours(one, other):
    return len(apart(one, other)) == 1


def pairs(store):
    return list(itertools.combinations(store.states, 2))


def faults(store, question, lot):
    told = answers(store, question)
    return [(one, other) for one, other in pairs(store) if agree(one, other, lot) and told[one] != told[other]]


def tells(store, question, lot):
    return not faults(store, question, lot)


def least_of(some):
    """Those lots within which no other one lies."""
    return tuple(sorted(lot for lot in set(some) if not any(set(other) < set(lot) for other in some)))


def least_lots(store, question):
    return least_of([lot for lot in lots(store.key_count) if tells(store, question, lot)])


def parting_lots(store, question):
    told = answers(store, question)
    return least_of([apart(one, other) for one, other in pairs(store) if told[one] != told[other]])


def is_paper(store, question, lot, paper):
    told = answers(store, question)
    if len(paper) != len(lot):
        return False
    for key, (one, other) in zip(lot, paper):
        if told[one] == told[other] or not agree(one, other, [left for left in lot if left != key]):
            return False
    return True


def reached(store, start, may_step):
    """How many steps lead from a state to each state that they lead to."""
    steps = {start: 0}
    waiting = [start]
    for state in waiting:
        for after in store.states:
            if after not in steps and may_step(state, after):
                steps[after] = steps[state] + 1
                waiting.append(after)
    return steps


def chain_length(store, one, other, bundles=None):
    """The number of states of a shortest chain (by a tying, if one is given), or None."""
    free = set(apart(one, other))

    def may_step(state, after):
        changed = set(apart(state, after))
        if not changed or not changed <= free:
            return False
        if bundles is None:
            return len(changed) == 1
        return any(changed <= set(bundle) for bundle in bundles)

    steps = reached(store, one, may_step)
    return steps[other] + 1 if other in steps else None


def is_chain(store, one, other, value, bundles=None):
    free = set(apart(one, other))
    if not value or value[0] != one or value[-1] != other or not all(state in store.states for state in value):
        return False
    for state, after in zip(value, value[1:]):
        changed = set(apart(state, after))
        if not changed or not changed <= free:
            return False
        if bundles is None and len(changed) != 1:
            return False
        if bundles is not None and not any(changed <= set(bundle) for bundle in bundles):
            return False
    return True


def unjoined(store):
    for one, other in pairs(store):
        if chain_length(store, one, other) is None:
            return one, other
    return None


def islands(store, lot):
    found = []
    for state in store.states:
        if not any(state in island for island in found):
            on = reached(store, state, lambda one, other: len(apart(one, other)) == 1 and apart(one, other)[0] in lot)
            found.append(tuple(sorted(on)))
    return tuple(sorted(found))


def is_whole(store, lot):
    island_of = {state: island for island in islands(store, lot) for state in island}
    others = [key for key in range(store.key_count) if key not in lot]
    return all(island_of[one] == island_of[other] for one, other in pairs(store) if agree(one, other, others))


def turning_pairs(store, question, key):
    told = answers(store, question)
    return [(one, other) for one, other in pairs(store) if apart(one, other) == (key,) and told[one] != told[other]]


def surely_alike(store, plans):
    """For each state the first one that any question that all of the plans tell answers alike."""
    return [min(reached(store, state, lambda one, other: any(agree(one, other, lot) for lot in plans)))
            for state in store.states]


def has_torn_plans(store):
    """Whether some question has two plans whose common keys do not tell it."""
    for first, second in itertools.combinations(lots(store.key_count), 2):
        classes = surely_alike(store, [first, second])
        if not tells(store, classes, [key for key in first if key in second]):
            return True
    return False


def tyings(count):
    """All ways to tie keys into bundles."""
    if count == 0:
        return [()]
    found = []
    for tying in tyings(count - 1):
        found.append(tying + ((count - 1,),))
        for at, bundle in enumerate(tying):
            found.append(tying[:at] + (bundle + (count - 1,),) + tying[at + 1:])
    return [tuple(sorted(tying)) for tying in found]
