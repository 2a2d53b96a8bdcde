"""Told draws: each ball goes into the emptiest of the boxes that are drawn for it."""


def emptiest_of(numbers, draw):
    """Tell the box of a draw that holds least, of such as hold as much the first one in the draw."""
    return min(draw, key=lambda box: numbers[box])


def by_draws(stand, draws):
    """Tell the stand behind a list of draws, and the boxes that got the balls."""
    numbers, boxes = list(stand), []
    for draw in draws:
        box = emptiest_of(numbers, draw)
        numbers[box] += 1
        boxes.append(box)
    return (tuple(numbers), boxes)


def order_matters(stand, draws):
    """Tell the least k where the draws k and k + 1 changing places lead to another stand, or None."""
    last = by_draws(stand, draws)[0]
    for k in range(len(draws) - 1):
        changed = draws[:k] + [draws[k + 1], draws[k]] + draws[k + 2:]
        if by_draws(stand, changed)[0] != last:
            return k
    return None
