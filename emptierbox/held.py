"""Two spreads held against one another: a joint spread, or a set that shows that there is none."""

from emptierbox.errors import TooMany
from emptierbox.flows import flow
from emptierbox.order import ask_alike, first_fuller
from emptierbox.shares import parted, weighed

MOST_HELD = 24


def held(first, second):
    """Tell ("joint", joint) where some joint spread has these two parts, else ("set", loads)."""
    ask_alike(first[0][0], second[0][0])
    if len(first) > MOST_HELD or len(second) > MOST_HELD:
        raise TooMany("a spread has too many loads to be held against another one")
    ones, others = [load for load, part in first], [load for load, part in second]
    tops, bottom = weighed([part for load, part in first + second])
    ways = [[j for j, other in enumerate(others) if first_fuller(one, other) is None] for one in ones]
    sent, stuck = flow(tops[:len(ones)], tops[len(ones):], ways)
    if stuck:
        return ("set", fuller_loads([ones[i] for i in stuck], ones + others))
    # The loads are rising, so the ways sorted are the pairs rising.
    return ("joint", [(ones[i], others[j], parted(top, [bottom])) for (i, j), top in sorted(sent.items()) if top > 0])


def fuller_loads(some, loads):
    """Tell those loads than which one of some is no fuller, rising."""
    return sorted({load for load in loads if any([first_fuller(one, load) is None for one in some])})
