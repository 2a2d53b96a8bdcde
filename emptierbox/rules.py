"""Rules: with which share the next ball goes to each rank, the fullest box first."""

from emptierbox.errors import Unlike
from emptierbox.shares import is_share, minus, parted, plus, times, total

MOST_RANKS = 12


def is_rule(thing):
    """Tell whether a thing, whatever it is, is a rule."""
    if not isinstance(thing, tuple) or len(thing) < 1 or len(thing) > MOST_RANKS:
        return False
    if not all([is_share(chance) and chance[0] >= 0 for chance in thing]):
        return False
    return total(list(thing)) == (1, 1)


def ask_as_many(one, other):
    """Refuse two rules that haven't as many boxes."""
    if len(one) != len(other):
        raise Unlike("the rules haven't as many boxes")


def drawn(n, many):
    """Tell the rule of the emptiest of so many drawn boxes, perhaps the same one again."""
    return tuple([parted(rows_up_to(rank + 1, many) - rows_up_to(rank, many), [n] * many) for rank in range(n)])


def rows_up_to(rank, many):
    """Tell how many rows of so many ranks there are, all of them ahead of a rank."""
    rows = 1
    for at in range(many):
        rows *= rank
    return rows


def unlike(n, many):
    """Tell the rule of the emptiest of so many unlike boxes, each such set alike."""
    # The emptiest one is at a rank where all the others are ahead of it.
    return tuple([parted(sets(rank, many - 1), [sets(n, many)]) for rank in range(n)])


def sets(things, many):
    """Tell how many sets of so many there are of some things."""
    found = 1
    for at in range(many):
        found = found * (things - at) // (at + 1)
    return found


def mixed(share, one, other):
    """Tell the rule that is with a share the one rule, else the other."""
    ask_as_many(one, other)
    rest = minus((1, 1), share)
    return tuple([plus(times(share, a), times(rest, b)) for a, b in zip(one, other)])
