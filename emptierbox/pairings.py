"""Pairings: two rules at once by one common row of shares."""

from emptierbox.beside import fuller_at
from emptierbox.rules import ask_as_many
from emptierbox.shares import is_share, parted, total, weighed


def pieces(tops):
    """Tell where each piece of a row begins and ends, all laid one behind another."""
    return [(sum(tops[:at]), sum(tops[:at + 1])) for at in range(len(tops))]


def overlap(piece, beside):
    """Tell how long two pieces lie beside one another."""
    return max(0, min(piece[1], beside[1]) - max(piece[0], beside[0]))


def pairing(one, other):
    """Tell a pairing of two rules, None where one is fuller than other."""
    if fuller_at(one, other) is not None:
        return None
    # Both rules are cut out of one row: as one is no fuller, its pieces end no
    # earlier than those of other, so none lies beside a later rank of other.
    tops, bottom = weighed(list(one) + list(other))
    rows, columns = pieces(tops[:len(one)]), pieces(tops[len(one):])
    return tuple([tuple([parted(overlap(row, column), [bottom]) for column in columns]) for row in rows])


def is_square(thing, n):
    """Tell whether a thing, whatever it is, is a tuple of n tuples of n shares, none below 0."""
    if not isinstance(thing, tuple) or len(thing) != n:
        return False
    if not all([isinstance(row, tuple) and len(row) == n for row in thing]):
        return False
    return all([is_share(part) and part[0] >= 0 for row in thing for part in row])


def lets_pairing(one, other, thing):
    """Tell whether a thing, whatever it is, is a pairing of one and other."""
    ask_as_many(one, other)
    n = len(one)
    if not is_square(thing, n) or any([thing[i][j][0] > 0 for j in range(n) for i in range(j)]):
        return False
    rows = [total(list(row)) for row in thing]
    columns = [total([row[j] for row in thing]) for j in range(n)]
    return rows == list(one) and columns == list(other)
