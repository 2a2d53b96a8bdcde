"""Shares: exact fractions, tuples (top, bottom) in lowest terms."""

from emptierbox.errors import NoShare
from emptierbox.whole import is_whole


def measure(a, b):
    """Tell the greatest common measure of two whole numbers, 0 of two noughts."""
    a, b = abs(a), abs(b)
    # A loop, since numbers of two thousand figures take thousands of steps.
    while b != 0:
        a, b = b, a % b
    return a


def share(top, bottom):
    """Tell the share that top divided by bottom is."""
    if bottom == 0:
        raise NoShare("nothing is divided by nought")
    common = measure(top, bottom)
    if bottom < 0:
        common = -common
    return (top // common, bottom // common)


def is_share(thing):
    """Tell whether a thing, whatever it is, is a share."""
    if not isinstance(thing, tuple) or len(thing) != 2:
        return False
    top, bottom = thing
    if not is_whole(top) or not is_whole(bottom) or bottom < 1:
        return False
    return measure(top, bottom) == 1


def plus(a, b):
    """Tell the sum of two shares."""
    common = measure(a[1], b[1])
    top = a[0] * (b[1] // common) + b[0] * (a[1] // common)
    # The new top can share with the new bottom only what both bottoms shared:
    # so a long sum never needs the measure of two long numbers.
    rest = measure(top, common)
    return (top // rest, (a[1] // common) * (b[1] // rest))


def minus(a, b):
    """Tell the first share less the second."""
    return plus(a, (-b[0], b[1]))


def times(a, b):
    """Tell the product of two shares."""
    # Crosswise, since the measure of a long number and a short one is soon found.
    first, second = measure(a[0], b[1]), measure(b[0], a[1])
    return ((a[0] // first) * (b[0] // second), (a[1] // second) * (b[1] // first))


def over(a, b):
    """Tell the first share divided by the second."""
    return share(a[0] * b[1], a[1] * b[0])


def total(some):
    """Tell the sum of a list of shares."""
    found = (0, 1)
    for one in some:
        found = plus(found, one)
    return found


def is_less(a, b):
    """Tell whether the first share is less than the second."""
    return a[0] * b[1] < b[0] * a[1]


def parted(top, bottoms):
    """Tell a whole number divided by each of some whole numbers from 1 on."""
    # Bottom by bottom, since measures of short numbers are soon found.
    bottom = 1
    for number in bottoms:
        common = measure(top, number)
        top = top // common
        bottom = bottom * (number // common)
    return (top, bottom)


def weighed(some):
    """Tell the tops of shares over one common bottom, a list, and this bottom."""
    bottom = 1
    for one in some:
        bottom = bottom // measure(bottom, one[1]) * one[1]
    return [one[0] * (bottom // one[1]) for one in some], bottom
