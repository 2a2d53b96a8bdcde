"""Spreads: loads that are alike in kind, each with its share."""

from emptierbox.errors import NoBall, TooMany, Unlike
from emptierbox.loads import is_load, put_at, taken_from
from emptierbox.shares import is_share, parted, total, weighed

MOST_LOADS = 60


def is_spread(thing):
    """Tell whether a thing, whatever it is, is a spread."""
    if not isinstance(thing, list) or not all([isinstance(row, tuple) and len(row) == 2 for row in thing]):
        return False
    if not all([is_load(load) for load, part in thing]):
        return False
    loads = [load for load, part in thing]
    return are_alike(loads) and are_rising(loads) and are_one([part for load, part in thing])


def are_alike(loads):
    """Tell whether some loads all have as many boxes and as many balls."""
    return all([len(load) == len(loads[0]) and sum(load) == sum(loads[0]) for load in loads])


def are_rising(things):
    """Tell whether each thing is greater than the one ahead of it."""
    return all([ahead < behind for ahead, behind in zip(things, things[1:])])


def are_one(things):
    """Tell whether things, whatever they are, are shares above 0 and together one."""
    if not all([is_share(part) and part[0] > 0 for part in things]):
        return False
    return total(things) == (1, 1)


def alone(load):
    """Tell the spread of one load alone."""
    return [(load, (1, 1))]


def gathered(rows):
    """Tell for each thing the sum of its weights, of a list of things with weights."""
    found = {}
    for thing, weight in rows:
        found[thing] = found.get(thing, 0) + weight
    return found


def summed(rows):
    """Tell for each thing the sum of its shares, rising, of a list of things with shares."""
    found = {}
    for thing, part in rows:
        found.setdefault(thing, []).append(part)
    return [(thing, total(some)) for thing, some in sorted(found.items())]


def weights_of(spread):
    """Tell the weight of each load, a whole number, and what all weights are divided by."""
    tops, bottom = weighed([part for load, part in spread])
    return {load: top for (load, part), top in zip(spread, tops)}, bottom


def spread_of(weights, bottoms):
    """Tell the spread of loads with these weights, divided by each of the bottoms."""
    return [(load, parted(weight, bottoms)) for load, weight in sorted(weights.items())]


def come(chances, weights):
    """Tell the weights behind one ball more, of the weights of the ranks and the loads."""
    return gathered([(put_at(load, rank), weight * chance) for load, weight in weights.items()
                     for rank, chance in enumerate(chances) if chance > 0])


def gone(weights):
    """Tell the weights behind one ball less, each ball of a load with the load's weight."""
    return gathered([(taken_from(load, rank), weight * number) for load, weight in weights.items()
                     for rank, number in enumerate(load) if number > 0])


def ask_boxes(ranks, load):
    """Refuse what hasn't as many ranks as a load has boxes."""
    if len(ranks) != len(load):
        raise Unlike("there aren't as many ranks as boxes")


def ask_balls(load):
    """Refuse a load without a ball."""
    if sum(load) == 0:
        raise NoBall("there is no ball that could leave")


def after(rule, spread, many):
    """Tell the spread behind so many balls more by a rule."""
    ask_boxes(rule, spread[0][0])
    chances, ball_bottom = weighed(list(rule))
    weights, bottom = weights_of(spread)
    for ball in range(many):
        weights = come(chances, weights)
        if len(weights) > MOST_LOADS:
            raise TooMany("the spread would have too many loads")
    return spread_of(weights, [bottom] + [ball_bottom] * many)


def put(rule, spread):
    """Tell the spread behind one ball more by a rule."""
    return after(rule, spread, 1)


def leave(spread):
    """Tell the spread behind a ball leaving by chance, each ball alike."""
    ask_balls(spread[0][0])
    weights, bottom = weights_of(spread)
    return spread_of(gone(weights), [bottom, sum(spread[0][0])])
