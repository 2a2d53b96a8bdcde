"""Nets: boxes with the pairs that are drawn of them, and where a ball goes in a tie."""

from emptierbox.loads import MOST_BOXES
from emptierbox.whole import is_two_places, is_whole

MOST_ON_NET = 40


def is_net(thing):
    """Tell whether a thing, whatever it is, is a net."""
    if not isinstance(thing, tuple) or len(thing) != 3:
        return False
    boxes, pairs, ties = thing
    if not is_whole(boxes) or boxes < 1 or boxes > MOST_BOXES:
        return False
    if not isinstance(pairs, tuple) or len(pairs) < 1 or len(pairs) > MOST_ON_NET:
        return False
    return all([is_two_places(pair, boxes) for pair in pairs]) and ties in ("left", "dice")


def ring(n, ties):
    """Tell the net of n boxes in a ring, each drawn with the next one."""
    return (n, tuple([(a, (a + 1) % n) for a in range(n)]), ties)


def whole_net(n, ties):
    """Tell the net of all pairs of n boxes."""
    return (n, tuple([(a, b) for a in range(n) for b in range(n)]), ties)


def is_even(net):
    """Tell whether each box stands in the pairs of a net as often as each other one."""
    boxes, pairs, ties = net
    ends = [box for pair in pairs for box in pair]
    return all([ends.count(box) == ends.count(0) for box in range(boxes)])
