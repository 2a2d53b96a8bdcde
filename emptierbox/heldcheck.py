"""Looks at what is said of two spreads: a joint spread, or a set that shows that there is none."""

from emptierbox.joints import is_joint, parts
from emptierbox.loads import is_load
from emptierbox.order import ask_alike, first_fuller
from emptierbox.shares import is_less, total
from emptierbox.spreads import are_rising


def lets_joint(first, second, thing):
    """Tell whether a thing, whatever it is, is a joint spread whose parts are two spreads."""
    ask_alike(first[0][0], second[0][0])
    return is_joint(thing) and parts(thing) == (first, second)


def lets_set(first, second, thing):
    """Tell whether a thing, whatever it is, is a list of loads that shows that there is no joint spread."""
    ask_alike(first[0][0], second[0][0])
    if not isinstance(thing, list) or not all([is_load(load) for load in thing]) or not are_rising(thing):
        return False
    known = {load: True for load, part in first + second}
    inside = {load: True for load in thing}
    if not all([load in known for load in thing]):
        return False
    outside = [load for load in known if load not in inside]
    if any([first_fuller(one, other) is None for one in thing for other in outside]):
        return False
    return is_less(share_in(second, inside), share_in(first, inside))


def share_in(spread, inside):
    """Tell the share of those loads of a spread that are inside."""
    return total([part for load, part in spread if load in inside])
