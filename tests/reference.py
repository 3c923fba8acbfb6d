"""What the document defines, word by word and by brute force, for small stores. Nothing here is quick."""

import itertools


def lots(count):
    keys = range(count)
    found = []
    for size in range(count + 1):
        found.extend(itertools.combinations(keys, size))
    return sorted(found)


def answers(store, question):
    return dict(zip(store.states, question))


def agree(one, other, lot):
    return all(one[key] == other[key] for key in lot)


def apart(one, other):
    return tuple(key for key in range(len(one)) if one[key] != other[key])


def are_neighbours(one, other):
    return len(apart(one, other)) == 1


def pairs(store):
    return list(itertools.combinations(store.states, 2))


def faults(store, question, lot):
    told = answers(store, question)
    return [(one, other) for one, other in pairs(store) if agree(one, other, lot) and told[one] != told[other]]


def tells(store, question, lot):
    return not faults(store, question, lot)


def least_of(some):
    """Those lots within which no other one lies."""
    return tuple(sorted(lot for lot in set(some) if not any(set(other) < set(lot) for other in some)))


def least_lots(store, question):
    return least_of([lot for lot in lots(store.key_count) if tells(store, question, lot)])


def parting_lots(store, question):
    told = answers(store, question)
    return least_of([apart(one, other) for one, other in pairs(store) if told[one] != told[other]])


def is_paper(store, question, lot, paper):
    told = answers(store, question)
    if len(paper) != len(lot):
        return False
    for key, (one, other) in zip(lot, paper):
        if told[one] == told[other] or not agree(one, other, [left for left in lot if left != key]):
            return False
    return True


def reached(store, start, may_step):
    """How many steps lead from a state to each state that they lead to."""
    steps = {start: 0}
    waiting = [start]
    for state in waiting:
        for after in store.states:
            if after not in steps and may_step(state, after):
                steps[after] = steps[state] + 1
                waiting.append(after)
    return steps


def chain_length(store, one, other, bundles=None):
    """The number of states of a shortest chain (by a tying, if one is given), or None."""
    free = set(apart(one, other))

    def may_step(state, after):
        changed = set(apart(state, after))
        if not changed or not changed <= free:
            return False
        if bundles is None:
            return len(changed) == 1
        return any(changed <= set(bundle) for bundle in bundles)

    steps = reached(store, one, may_step)
    return steps[other] + 1 if other in steps else None


def is_chain(store, one, other, value, bundles=None):
    free = set(apart(one, other))
    if not value or value[0] != one or value[-1] != other or not all(state in store.states for state in value):
        return False
    for state, after in zip(value, value[1:]):
        changed = set(apart(state, after))
        if not changed or not changed <= free:
            return False
        if bundles is None and len(changed) != 1:
            return False
        if bundles is not None and not any(changed <= set(bundle) for bundle in bundles):
            return False
    return True


def unjoined(store):
    for one, other in pairs(store):
        if chain_length(store, one, other) is None:
            return one, other
    return None


def islands(store, lot):
    found = []
    for state in store.states:
        if not any(state in island for island in found):
            on = reached(store, state, lambda one, other: len(apart(one, other)) == 1 and apart(one, other)[0] in lot)
            found.append(tuple(sorted(on)))
    return tuple(sorted(found))


def is_whole(store, lot):
    island_of = {state: island for island in islands(store, lot) for state in island}
    others = [key for key in range(store.key_count) if key not in lot]
    return all(island_of[one] == island_of[other] for one, other in pairs(store) if agree(one, other, others))


def turning_pairs(store, question, key):
    told = answers(store, question)
    return [(one, other) for one, other in pairs(store) if apart(one, other) == (key,) and told[one] != told[other]]


def surely_alike(store, plans):
    """For each state the first one that any question that all of the plans tell answers alike."""
    return [min(reached(store, state, lambda one, other: any(agree(one, other, lot) for lot in plans)))
            for state in store.states]


def has_torn_plans(store):
    """Whether some question has two plans whose common keys do not tell it."""
    for first, second in itertools.combinations(lots(store.key_count), 2):
        classes = surely_alike(store, [first, second])
        if not tells(store, classes, [key for key in first if key in second]):
            return True
    return False


def tyings(count):
    """All ways to tie keys into bundles."""
    if count == 0:
        return [()]
    found = []
    for tying in tyings(count - 1):
        found.append(tying + ((count - 1,),))
        for at, bundle in enumerate(tying):
            found.append(tying[:at] + (bundle + (count - 1,),) + tying[at + 1:])
    return [tuple(sorted(tying)) for tying in found]


def is_coarser(one, other):
    return all(any(set(small) <= set(large) for large in one) for small in other)


def is_joined_by(store, tying):
    return all(chain_length(store, one, other, tying) is not None for one, other in pairs(store))


def joined_tyings(store):
    return sorted(tying for tying in tyings(store.key_count) if is_joined_by(store, tying))


def are_nested(tying, one, other):
    return all(set(one) & set(bundle) <= set(other) or set(other) & set(bundle) <= set(one) for bundle in tying)


def has_tying_fault(store, tying):
    """Whether some question has two nested plans whose common keys do not tell it."""
    for first, second in itertools.combinations(lots(store.key_count), 2):
        if are_nested(tying, first, second):
            classes = surely_alike(store, [first, second])
            if not tells(store, classes, [key for key in first if key in second]):
                return True
    return False


def turning_bundles(store, tying, question):
    told = answers(store, question)
    return tuple(bundle for bundle in tying
                 if any(set(apart(one, other)) <= set(bundle) and told[one] != told[other] for one, other in pairs(store)))


def are_knotting(store, first, second, one, other):
    """Whether two states knot two keys."""
    free = set(apart(one, other))

    def may_step(state, after):
        changed = set(apart(state, after))
        return changed <= free and not {first, second} <= changed

    return other not in reached(store, one, may_step)


def knots(store, first, second):
    return [pair for pair in pairs(store) if are_knotting(store, first, second, *pair)]


def hang_together(count, lots_of_keys):
    """The tying in which keys are in one bundle if they hang together by the lots."""
    bundles = [{key} for key in range(count)]
    for lot in lots_of_keys:
        met = [bundle for bundle in bundles if bundle & set(lot)]
        bundles = [bundle for bundle in bundles if bundle not in met] + ([set().union(*met)] if met else [])
    return tuple(sorted(tuple(sorted(bundle)) for bundle in bundles))


def views(states, lot):
    return {tuple(state[key] for key in lot) for state in states}


def slice_states(store, lot, values):
    others = [key for key in range(store.key_count) if key not in lot]
    return tuple(sorted(tuple(state[key] for key in others) for state in store.states
                        if tuple(state[key] for key in lot) == values))


def are_in_one_piece(states):
    """Whether neighbours lead from each of some states to each other one."""
    met = [states[0]]
    for state in met:
        met.extend(after for after in states if after not in met and are_neighbours(state, after))
    return len(met) == len(states)


def parts(states, count, sizes):
    """All tyings that part some states."""
    rows = list(itertools.product(*[range(size) for size in sizes]))

    def do_part(tying):
        seen = [views(states, bundle) for bundle in tying]
        return all(row in states for row in rows
                   if all(tuple(row[key] for key in bundle) in some for bundle, some in zip(tying, seen)))

    return [tying for tying in tyings(count) if do_part(tying)]


def obeying(prime, count, rules):
    """The rows that obey linear rules."""
    return [row for row in itertools.product(range(prime), repeat=count)
            if all(sum(value * factor for value, factor in zip(row, rule)) % prime == rule[-1] for rule in rules)]


def changes(prime, states):
    """What leads from each of the states of linear rules to a state."""
    first = states[0]
    return [tuple((value - start) % prime for value, start in zip(state, first)) for state in states if state != first]


def had(row):
    return {key for key, value in enumerate(row) if value}


def least_changes(prime, states):
    every = changes(prime, states)
    return [change for change in every if not any(had(other) < had(change) for other in every)]


def keeping(sizes, rules):
    """The rows that keep rules of levels."""
    return [row for row in itertools.product(*[range(size) for size in sizes])
            if all(row[one] < level or row[other] >= least for one, level, other, least in rules)]


def lower(one, other):
    return tuple(map(min, one, other))


def upper(one, other):
    return tuple(map(max, one, other))


def occurs(event, row):
    return row[event[0]] >= event[1]


def rings(sizes, rows):
    """The rings of some allowed rows."""
    found = {}
    for key, size in enumerate(sizes):
        for level in range(1, size):
            where = tuple(row for row in rows if occurs((key, level), row))
            if where and len(where) < len(rows):
                found.setdefault(where, []).append((key, level))
    return tuple(sorted(tuple(events) for events in found.values()))
