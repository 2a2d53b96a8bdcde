"""Stands: how many balls each box of a net holds, by its number, and spreads of them."""

from emptierbox.errors import TooMany, Unlike
from emptierbox.loads import falling
from emptierbox.shares import share, times
from emptierbox.spreads import gathered, spread_of, summed

MOST_STANDS = 500


def ask_boxes_of(net, stand):
    """Refuse a stand that hasn't as many boxes as a net."""
    if net[0] != len(stand):
        raise Unlike("the net and the stand haven't as many boxes")


def ask_few(stands):
    """Refuse more stands than a spread of them may have."""
    if len(stands) > MOST_STANDS:
        raise TooMany("the spread would have too many stands")


def box_weights(net, stand):
    """Tell for each box with which weight it gets the next ball: two for each pair, or one in a tie by dice."""
    boxes, pairs, ties = net
    weights = [0] * boxes
    for a, b in pairs:
        if ties == "dice" and stand[a] == stand[b]:
            weights[a] += 1
            weights[b] += 1
        else:
            weights[b if stand[b] < stand[a] else a] += 2
    return weights


def next_stands(net, stand):
    """Tell the stands with one ball more that a stand leads to, each with its weight."""
    return [(stand[:box] + (stand[box] + 1,) + stand[box + 1:], weight)
            for box, weight in enumerate(box_weights(net, stand)) if weight > 0]


def all_weights(net):
    """Tell what the weights of all boxes of a net are together."""
    return 2 * len(net[1])


def put_on(net, spread):
    """Tell the spread of stands behind one ball more."""
    ask_boxes_of(net, spread[0][0])
    bottom = all_weights(net)
    # Stand for stand, not over one common bottom: each sum has a few parts
    # alone, while shares that anybody may hand in can have many bottoms.
    told = summed([(later, times(part, share(weight, bottom)))
                   for stand, part in spread for later, weight in next_stands(net, stand)])
    ask_few(told)
    return told


def after_on(net, stand, many):
    """Tell the spread of stands behind so many balls more from a stand."""
    ask_boxes_of(net, stand)
    weights = {stand: 1}
    for ball in range(many):
        weights = gathered([(later, weight * chance) for old, weight in weights.items()
                            for later, chance in next_stands(net, old)])
        ask_few(weights)
    return spread_of(weights, [all_weights(net)] * many)


def load_of(stand):
    """Tell the load that a stand comes to."""
    return falling(stand)


def as_loads(spread):
    """Tell the spread of loads that a spread of stands comes to."""
    return summed([(load_of(stand), part) for stand, part in spread])
