"""Layers: bounds for how many boxes hold at least one ball, two balls and so on."""

from emptierbox.shares import parted, weighed
from emptierbox.tails import tail_tops
from emptierbox.whole import is_whole

MOST_LAYERS = 6


def is_layers(rule, thing):
    """Tell whether a thing, whatever it is, is layers of a rule."""
    if not isinstance(thing, tuple) or len(thing) < 2 or len(thing) > MOST_LAYERS + 1:
        return False
    if not all([is_whole(number) and number >= 0 for number in thing]) or thing[0] != len(rule):
        return False
    return all([ahead >= behind for ahead, behind in zip(thing, thing[1:])])


def tails_of(rule, balls):
    """Tell for each number of the first ranks the tops of the tails of their shares together.

    Told too is the bottom of one try: all tops stand over it, times itself once for each ball.
    """
    chances, bottom = weighed(list(rule))
    return [tail_tops(balls, sum(chances[:many]), bottom) for many in range(len(rule) + 1)], bottom


def part_top(tails, k, ahead, b):
    """Tell the top of that part of a bound that layer k adds, of its number and the one ahead of it."""
    n, balls = len(tails) - 1, len(tails[0]) - 1
    if b == n or k * (b + 1) > balls:
        return 0
    return tails[ahead][b + 1]


def bound(rule, balls, layers):
    """Tell the bound that layers come to for so many balls."""
    tails, bottom = tails_of(rule, balls)
    tops = [part_top(tails, k, layers[k - 1], layers[k]) for k in range(1, len(layers))]
    return parted(sum(tops), [bottom] * balls)


def least_layers(rule, balls, m):
    """Tell the least bound of all m layers whose last number is 0, and layers that have it."""
    tails, bottom = tails_of(rule, balls)
    n = len(rule)
    # A part hangs on its number and the one ahead alone: so of all layers that
    # end with the same number only the least ones can be the beginning of others.
    least = {n: (0, (n,))}
    for k in range(1, m + 1):
        least = {b: min([(top + part_top(tails, k, ahead, b), layers + (b,))
                         for ahead, (top, layers) in least.items() if ahead >= b]) for b in range(n + 1)}
    top, layers = least[0]
    return (parted(top, [bottom] * balls), layers)
