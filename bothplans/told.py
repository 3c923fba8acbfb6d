"""What told answers show of a question to a joined store that is not known."""

from bothplans.answers import check_joined, checked_told, groups_by_key, turned_keys, unknown_keys, unseen_keys
from bothplans.stores import checked_lot, view


def sure_keys(store, told):
    """The keys that are in the least lot of each question that fits."""
    check_joined(store)
    return turned_keys(groups_by_key(store), checked_told(store, told))


def spare_keys(store, told):
    """The keys that are in the least lot of no question that fits."""
    check_joined(store)
    answers = checked_told(store, told)
    groups = groups_by_key(store)
    other = turned_keys(groups, answers) + unseen_keys(groups, answers)
    return tuple([key for key in range(store.key_count) if key not in other])


def open_keys(store, told):
    """The keys that are neither sure nor spare."""
    check_joined(store)
    return unknown_keys(groups_by_key(store), checked_told(store, told))


def may_rest_on(store, told, lot):
    """Whether some question that fits has this lot as its least one."""
    check_joined(store)
    answers = checked_told(store, told)
    keys = checked_lot(store, lot)
    seen = {}
    for state, answer in answers.items():
        if seen.setdefault(view(state, keys), answer) != answer:
            return False
    groups = groups_by_key(store)
    return all([any([_may_turn(seen, keys, group) for group in groups[key]]) for key in keys])


def _may_turn(seen, lot, group):
    """Whether some neighbours of a group may have unlike answers, with these answers told for views on the lot."""
    told = [seen.get(view(state, lot)) for state in group]
    return None in told or any([answer != told[0] for answer in told])
