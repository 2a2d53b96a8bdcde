"""Joint spreads: pairs of loads, each one no fuller than the other beside it."""

from emptierbox.errors import Fuller, TooMany
from emptierbox.loads import is_load, put_at, taken_from
from emptierbox.order import first_fuller
from emptierbox.shares import parted, weighed
from emptierbox.spreads import are_alike, are_one, are_rising, ask_balls, ask_boxes, gathered, summed

MOST_PAIRS = 300


def is_joint(thing):
    """Tell whether a thing, whatever it is, is a joint spread."""
    if not isinstance(thing, list) or not all([isinstance(row, tuple) and len(row) == 3 for row in thing]):
        return False
    if not all([is_load(one) and is_load(other) for one, other, part in thing]):
        return False
    if not are_alike([load for one, other, part in thing for load in (one, other)]):
        return False
    if not all([first_fuller(one, other) is None for one, other, part in thing]):
        return False
    return are_rising([(one, other) for one, other, part in thing]) and are_one([part for one, other, part in thing])


def pair_alone(one, other):
    """Tell the joint spread of one pair alone."""
    if first_fuller(one, other) is not None:
        raise Fuller("the first load is fuller than the second")
    return [(one, other, (1, 1))]


def pair_weights(joint):
    """Tell the weight of each pair, a whole number, and what all weights are divided by."""
    tops, bottom = weighed([part for one, other, part in joint])
    return {(one, other): top for (one, other, part), top in zip(joint, tops)}, bottom


def joint_of(weights, bottoms):
    """Tell the joint spread of pairs with these weights, divided by each of the bottoms."""
    return [(one, other, parted(weight, bottoms)) for (one, other), weight in sorted(weights.items())]


def put_both(pairing, joint):
    """Tell the joint spread behind one ball more by a pairing."""
    ask_boxes(pairing, joint[0][0])
    places = [(i, j) for i in range(len(pairing)) for j in range(len(pairing))]
    chances, ball_bottom = weighed([pairing[i][j] for i, j in places])
    weights, bottom = pair_weights(joint)
    later = gathered([((put_at(one, i), put_at(other, j)), weight * chance)
                      for (one, other), weight in weights.items()
                      for (i, j), chance in zip(places, chances) if chance > 0])
    if len(later) > MOST_PAIRS:
        raise TooMany("the joint spread would have too many pairs")
    return joint_of(later, [bottom, ball_bottom])


def ranks_of_balls(load):
    """Tell the rank of each ball, counted from the fullest box on."""
    return [rank for rank, number in enumerate(load) for ball in range(number)]


def leave_both(joint):
    """Tell the joint spread behind a ball leaving by chance, the same ball u of both loads."""
    ask_balls(joint[0][0])
    weights, bottom = pair_weights(joint)
    later = gathered([((taken_from(one, i), taken_from(other, j)), weight)
                      for (one, other), weight in weights.items()
                      for i, j in zip(ranks_of_balls(one), ranks_of_balls(other))])
    return joint_of(later, [bottom, sum(joint[0][0])])


def parts(joint):
    """Tell the spread of the ones and the spread of the others."""
    return (summed([(one, part) for one, other, part in joint]),
            summed([(other, part) for one, other, part in joint]))
