"""Means of spreads, and the shares of their fuller loads."""

from emptierbox.shares import parted, weighed


def fullest(load):
    """Tell what the fullest box holds."""
    return load[0]


def emptiest(load):
    """Tell what the emptiest box holds."""
    return load[-1]


def gap(load):
    """Tell how much more the fullest box holds than the emptiest."""
    return load[0] - load[-1]


def squares(load):
    """Tell the sum of all numbers of a load, each times itself."""
    return sum([number * number for number in load])


WORDS = {"fullest": fullest, "emptiest": emptiest, "gap": gap, "squares": squares}


def mean_of(spread, numbers):
    """Tell the mean of whole numbers, one for each load of a spread."""
    tops, bottom = weighed([part for load, part in spread])
    return parted(sum([top * number for top, number in zip(tops, numbers)]), [bottom])


def mean(spread, word):
    """Tell the mean that one of the four words names."""
    deed = WORDS[word]
    return mean_of(spread, [deed(load) for load, part in spread])


def first_mean(spread, k):
    """Tell the mean of the first k numbers together."""
    return mean_of(spread, [sum(load[:k]) for load, part in spread])


def fullest_share(spread, m):
    """Tell the share of the loads whose fullest box holds at least m balls."""
    return many_share(spread, m, 1)


def many_share(spread, m, b):
    """Tell the share of the loads in which at least b boxes hold at least m balls each."""
    return mean_of(spread, [int(boxes_with(load, m) >= b) for load, part in spread])


def boxes_with(load, m):
    """Tell how many boxes hold at least m balls each."""
    return len([number for number in load if number >= m])
