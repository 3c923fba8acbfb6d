"""Which lots surely tell what some lots tell, whether their common keys do, and which of the lots add something."""

from bothplans.groups import first_unlike, places_by_label
from bothplans.kinds import is_number
from bothplans.least import least_lots
from bothplans.roots import joined_roots
from bothplans.stores import states_at, views
from bothplans.sure import alike_roots, checked_lots, class_question, widened_classes
from bothplans.telling import tells


def common_keys(store, lots):
    """The keys that are in all of the lots."""
    plans = checked_lots(store, lots)
    return tuple([key for key in range(store.key_count) if all([key in lot for lot in plans])])


def surely_tells(store, lots, lot):
    """Whether a lot tells each question that all of the lots tell."""
    # They all tell the question for the class, and each other one that they all tell has one answer on each class.
    return tells(store, class_question(store, lots), lot)


def sure_lots(store, lots):
    """The lots that tell each question that all of the lots tell, while no lot of fewer of their keys does."""
    return least_lots(store, class_question(store, lots))


def common_fault(store, lots):
    """The first two states that agree on the common keys, but are not surely alike; None if there are none."""
    plans = checked_lots(store, lots)
    groups = places_by_label(views(store, common_keys(store, plans)))
    places = first_unlike(groups, alike_roots(store, plans))
    return None if places is None else states_at(store, places)


def adds(store, lots, lot):
    """Whether some question that all of the lots tell is not told by a lot."""
    return not surely_tells(store, lots, lot)


def _roots_of_ends(store, lots):
    """For each number of the lots, from 0 on, the classes of all lots but so many first ones."""
    ends = [alike_roots(store, [])]
    for lot in lots[::-1]:
        ends.append(widened_classes(store, ends[-1], lot))
    return ends[::-1]


def enough_plans(store, lots):
    """Some ascending indexes of lots that have the same classes as all lots, but would not without any one of them."""
    plans = checked_lots(store, lots)
    ends = _roots_of_ends(store, plans)
    kept = []
    before = ends[-1]
    for at, lot in enumerate(plans):
        if joined_roots(before, list(enumerate(ends[at + 1]))) != ends[0]:
            kept.append(at)
            before = widened_classes(store, before, lot)
    return tuple(kept)


def are_enough_plans(store, lots, value):
    """Whether any value is such indexes."""
    plans = checked_lots(store, lots)
    if not isinstance(value, tuple) or not all([is_number(entry) and entry < len(plans) for entry in value]):
        return False
    if not all([value[at - 1] < value[at] for at in range(1, len(value))]):
        return False
    chosen = [plans[at] for at in value]
    if alike_roots(store, chosen) != alike_roots(store, plans):
        return False
    # If one of these could be left out, the first such one would be.
    return len(enough_plans(store, chosen)) == len(chosen)
