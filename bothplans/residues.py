"""Multiples of a number, and what is left of them when they are divided by another one."""


def first_multiple(step, divisor, low, high):
    """The least number from 0 on that, times a step and divided by a divisor, leaves from low to high; or None.

    The divisor is from 1 on, low at most high, and high less than the divisor.
    """
    if low == 0:
        return 0
    step = step % divisor
    if step == 0:
        return None
    first = rounded_up(low, step)
    if first * step <= high:
        return first
    # What is sought is the least multiple of the divisor with a multiple of the step from low to high above it.
    rounds = first_multiple(divisor, step, -high % step, -low % step)
    if rounds is None:
        return None
    return rounded_up(rounds * divisor + low, step)


def rounded_up(number, divisor):
    """A number divided by another one, rounded up."""
    return -(-number // divisor)
