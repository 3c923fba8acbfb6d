"""What kind of value something is, whatever was passed."""


def is_integer(value):
    """Whether a value is an integer; True and False are none."""
    return isinstance(value, int) and not isinstance(value, bool)


def is_number(value):
    """Whether a value is an integer from 0 on."""
    return is_integer(value) and value >= 0


def is_sequence(value):
    """Whether a value is a list or a tuple."""
    return isinstance(value, (list, tuple))


def are_sizes(value):
    """Whether a value is a sequence, not empty, of numbers from 1 on."""
    return is_sequence(value) and len(value) > 0 and all([is_number(size) and size > 0 for size in value])


def is_row(value, sizes):
    """Whether a value is a sequence with a number below each of the sizes."""
    if not is_sequence(value) or len(value) != len(sizes):
        return False
    return all([is_number(entry) and entry < size for entry, size in zip(value, sizes)])


def first_misfit(values, count):
    """The index of the first entry of a sequence that is no number below count, or stands before; or None."""
    for at, entry in enumerate(values):
        if not is_number(entry) or entry >= count or entry in values[:at]:
            return at
    return None
