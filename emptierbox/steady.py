"""What stays where a ball leaves by chance and one comes by a rule."""

from emptierbox.errors import TooMany
from emptierbox.loads import MOST_BOXES, all_loads
from emptierbox.shares import share, weighed
from emptierbox.solve import solved
from emptierbox.spreads import ask_balls, ask_boxes, come, gone, is_spread, spread_of, weights_of

MOST_STEADY = 12


def turn(rule, spread):
    """Tell the spread behind a ball leaving by chance and one coming by a rule."""
    load = spread[0][0]
    ask_balls(load)
    ask_boxes(rule, load)
    chances, ball_bottom = weighed(list(rule))
    weights, bottom = weights_of(spread)
    return spread_of(come(chances, gone(weights)), [bottom, sum(load), ball_bottom])


def stays(rule, thing):
    """Tell whether a thing, whatever it is, is a spread that is the same behind a turn of a rule."""
    if not is_spread(thing) or len(thing[0][0]) != len(rule) or sum(thing[0][0]) == 0:
        return False
    chances, ball_bottom = weighed(list(rule))
    weights, bottom = weights_of(thing)
    # Held against one another in whole numbers, since shares of long numbers
    # that anybody may hand in are slow to bring to lowest terms.
    many = sum(thing[0][0]) * ball_bottom
    return come(chances, gone(weights)) == {load: weight * many for load, weight in weights.items()}


def steady(rule, balls):
    """Tell the only spread of so many balls that stays by a rule."""
    if len(rule) > MOST_BOXES:
        raise TooMany("the rule has too many boxes")
    loads = all_loads(len(rule), balls)
    if len(loads) > MOST_STEADY:
        raise TooMany("there are too many loads")
    tops, bottom = solved(steady_rows(rule, loads), [0] * (len(loads) - 1) + [1])
    return [(load, share(top, bottom)) for load, top in zip(loads, tops) if top != 0]


def steady_rows(rule, loads):
    """Tell for each load what a turn adds to its weight, of the weights of all loads; the last row is their sum."""
    chances, ball_bottom = weighed(list(rule))
    later = [come(chances, gone({load: 1})) for load in loads]
    rows = [[weights.get(load, 0) for weights in later] for load in loads]
    for at, load in enumerate(loads):
        rows[at][at] -= sum(load) * ball_bottom
    # All these rows are together nought: so the last one follows from the others,
    # and in its place stands that the shares are together one.
    return rows[:-1] + [[1] * len(loads)]
