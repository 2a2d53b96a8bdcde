"""Rules beside one another: which one is no fuller, and what parts them where it isn't."""

from emptierbox.rules import ask_as_many
from emptierbox.shares import minus, plus


def fuller_at(one, other):
    """Tell the least k by whose first k shares one is fuller than other, or None."""
    ask_as_many(one, other)
    more = (0, 1)
    for k, (a, b) in enumerate(zip(one, other), start=1):
        more = plus(more, minus(a, b))
        if more[0] > 0:
            return k
    return None


def parting(one, other):
    """Tell a load and a k that show that one is fuller than other, or None."""
    k = fuller_at(one, other)
    if k is None:
        return None
    # No two boxes of this load change their order by one ball.
    return (tuple([2 * rank for rank in reversed(range(len(one)))]), k)
