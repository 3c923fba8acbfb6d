"""Rings: events that occur in the same allowed rows, and how the answer of a sum turns by them."""

from bothplans.errors import InvalidQuestion, InvalidState, Refused
from bothplans.kinds import is_integer, is_number, is_sequence
from bothplans.levels import bottom_row, floor, highest, is_allowed_row, lower_row, upper_row
from bothplans.roots import tying_of


def rings(levels):
    """All rings: the open events that occur in the same allowed rows as one of them."""
    return tuple(sorted([tuple(events) for events in rings_by_floor(levels).values()]))


def rings_by_floor(levels):
    """For the least row in which its events occur, each ring."""
    found = {}
    for key in range(levels.key_count):
        for level in range(1, levels.sizes[key]):
            if _is_open(levels, key, level):
                # An event occurs just in the allowed rows that are nowhere less than its floor.
                found.setdefault(floor(levels, key, level), []).append((key, level))
    return found


def _is_open(levels, key, level):
    return floor(levels, key, level) is not None and bottom_row(levels)[key] < level


def ring_rows(levels, event):
    """Two allowed rows: without the ring of an event, and with it, the least one in which the event occurs."""
    if not _is_event(levels, event):
        raise InvalidQuestion(0)
    key, level = event
    if not _is_open(levels, key, level):
        raise Refused(0)
    return _rows_of(levels, key, level)


def _is_event(levels, value):
    if not is_sequence(value) or len(value) != 2:
        return False
    key, level = value
    if not is_number(key) or key >= levels.key_count:
        return False
    return is_number(level) and 0 < level < levels.sizes[key]


def _rows_of(levels, key, level):
    least = floor(levels, key, level)
    below = least[:key] + (level - 1,) + least[key + 1:]
    return highest(levels, below), least


def ring_chain(levels, one, other):
    """Allowed rows from one to another one, each unlike the next in the events of one ring, no ring twice."""
    for at, row in enumerate((one, other)):
        if not is_allowed_row(levels, row):
            raise InvalidState(at)
    first, last = tuple(one), tuple(other)
    meeting = lower_row(first, last)
    down = _climb(levels, meeting, first)[::-1]
    return tuple(down + _climb(levels, meeting, last)[1:])


def _climb(levels, low, high):
    """Allowed rows from one up to a greater one, in each of which the events of one more ring occur."""
    floors = {}
    for key in range(levels.key_count):
        for level in range(low[key] + 1, high[key] + 1):
            floors[floor(levels, key, level)] = True
    rows = [low]
    # A floor that is nowhere greater than another one has a lesser sum: its ring occurs before.
    for least in sorted(list(floors), key=sum):
        rows.append(upper_row(rows[-1], least))
    return rows


def level_bundles(levels):
    """The finest tying of the allowed rows: what hangs together if the keys of each ring do."""
    return tying_of(levels.key_count, [_keys_of(ring) for ring in rings(levels)])


def _keys_of(ring):
    return [key for key, _ in ring]


def sum_turns(levels, points):
    """For each bundle in whose keys alone some rows with unlike answers differ, the bundle and two such rows."""
    asked = _checked_points(levels, points)
    turns = {}
    for ring in rings(levels):
        key, level = ring[0]
        one, other = _rows_of(levels, key, level)
        if _sum_at(asked, one) != _sum_at(asked, other):
            turns.setdefault(key, (one, other))
    found = []
    for bundle in level_bundles(levels):
        rows = [turns[key] for key in bundle if key in turns]
        if rows:
            found.append((bundle,) + rows[0])
    return tuple(found)


def _checked_points(levels, points):
    if not is_sequence(points):
        raise InvalidQuestion(levels.key_count)
    for at, entry in enumerate(points):
        if at >= levels.key_count or not _are_points(entry, levels.sizes[at]):
            raise InvalidQuestion(at)
    if len(points) < levels.key_count:
        raise InvalidQuestion(levels.key_count)
    return points


def _are_points(value, size):
    return is_sequence(value) and len(value) == size and all([is_integer(entry) for entry in value])


def _sum_at(points, row):
    return sum([entry[value] for entry, value in zip(points, row)])
