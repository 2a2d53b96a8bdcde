"""Tails: the share that at least so many of some tries come."""

from emptierbox.shares import parted


def tail_tops(tries, top, bottom):
    """Tell for each b from 0 to the tries the top of its tail, where each try comes with top over bottom.

    They stand over the bottom times itself, once for each of the tries.
    """
    coming = [1]
    for at in range(tries):
        coming = [fewer * top + same * (bottom - top) for fewer, same in zip([0] + coming, coming + [0])]
    return [sum(coming[b:]) for b in range(tries + 1)]


def tail(tries, s, b):
    """Tell the share that at least b of the tries come, each with the share s."""
    if b <= 0:
        return (1, 1)
    if b > tries:
        return (0, 1)
    top, bottom = s
    return parted(tail_tops(tries, top, bottom)[b], [bottom] * tries)
