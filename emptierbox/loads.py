"""Loads: how many balls the boxes hold, the fullest box first."""

from emptierbox.errors import NoBall
from emptierbox.whole import is_whole

MOST_BOXES = 6


def is_load(thing):
    """Tell whether a thing, whatever it is, is a load."""
    if not isinstance(thing, tuple) or len(thing) < 1 or len(thing) > MOST_BOXES:
        return False
    if not all([is_whole(number) and number >= 0 for number in thing]):
        return False
    return all([ahead >= behind for ahead, behind in zip(thing, thing[1:])])


def falling(numbers):
    """Tell the load of boxes that hold these numbers of balls."""
    return tuple(sorted(numbers, reverse=True))


def put_at(load, rank):
    """Tell the load with one ball more in the box at a rank."""
    numbers = list(load)
    numbers[rank] += 1
    return falling(numbers)


def taken_from(load, rank):
    """Tell the load with one ball less in the box at a rank."""
    if load[rank] == 0:
        raise NoBall("the box at this rank holds no ball")
    numbers = list(load)
    numbers[rank] -= 1
    return falling(numbers)


def all_loads(n, balls):
    """Tell all loads of n boxes with so many balls, rising."""
    found = [(0,) * n]
    # Each load with a ball more is a load with that ball put somewhere.
    for ball in range(balls):
        found = sorted({put_at(load, rank) for load in found for rank in range(n)})
    return found
