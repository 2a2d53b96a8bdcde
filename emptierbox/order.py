"""The order of loads: which one is no fuller, and the moves that show it."""

from emptierbox.errors import Unlike
from emptierbox.loads import falling
from emptierbox.whole import is_two_places


def ask_alike(one, other):
    """Refuse two loads that haven't as many boxes and as many balls."""
    if len(one) != len(other) or sum(one) != sum(other):
        raise Unlike("the loads haven't as many boxes and as many balls")


def first_fuller(one, other):
    """Tell the least k by whose first k numbers one is fuller than other, or None."""
    ask_alike(one, other)
    more = 0
    for k, (number, beside) in enumerate(zip(one, other), start=1):
        more += number - beside
        if more > 0:
            return k
    return None


def can_move(load, thing):
    """Tell whether a thing, whatever it is, is a move that can be done with a load."""
    return is_two_places(thing, len(load)) and load[thing[0]] >= load[thing[1]] + 2


def moved(load, move):
    """Tell the load behind a move."""
    # Both ranks are those ahead of the move, so it is sorted once, behind both.
    numbers = list(load)
    numbers[move[0]] -= 1
    numbers[move[1]] += 1
    return falling(numbers)


def next_move(one, load):
    """Tell a move of a load towards one, another load that is no fuller."""
    # From the last number too great ahead of the first one too small: those
    # between are right already, so the load behind stays falling, one is no
    # fuller than it, and it is nearer to one.
    small = min([at for at, number in enumerate(load) if number < one[at]])
    great = max([at for at in range(small) if load[at] > one[at]])
    return (great, small)


def moves(one, other):
    """Tell a list of moves that leads from other to one, None where one is fuller."""
    if first_fuller(one, other) is not None:
        return None
    load = other
    found = []
    while load != one:
        move = next_move(one, load)
        found.append(move)
        load = moved(load, move)
    return found


def lets_moves(one, other, thing):
    """Tell whether a thing, whatever it is, is a list of moves from other to one."""
    ask_alike(one, other)
    if not isinstance(thing, list):
        return False
    load = other
    for move in thing:
        if not can_move(load, move):
            return False
        load = moved(load, move)
    return load == one
