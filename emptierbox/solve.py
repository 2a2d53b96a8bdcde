"""Rows of equations over whole numbers."""


def cleared(row, beside, at, last):
    """Tell a row with nought at a place, by the row beside it, which has another number there."""
    # The number that was chosen last measures all of these: so they stay short.
    return [(number * beside[at] - other * row[at]) // last for number, other in zip(row, beside)]


def solved(rows, rights):
    """Tell the only solution of rows of equations: a list of tops, and the bottom of them all.

    Each row holds what the unknown ones are taken times; its right says what they are together.
    """
    rows = [row + [right] for row, right in zip(rows, rights)]
    many = len(rows)
    last = 1
    for at in range(many):
        chosen = min([k for k in range(at, many) if rows[k][at] != 0])
        rows[at], rows[chosen] = rows[chosen], rows[at]
        beside = rows[at]
        rows = [row if k == at else cleared(row, beside, at, last) for k, row in enumerate(rows)]
        last = beside[at]
    return [row[-1] for row in rows], last
