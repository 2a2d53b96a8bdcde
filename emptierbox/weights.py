"""Weights put one behind another, each into the box that holds least."""


def evened(stand, weights):
    """Tell the stand behind weights, each put into the box with the least number of those that hold least."""
    numbers = list(stand)
    for weight in weights:
        numbers[numbers.index(min(numbers))] += weight
    return tuple(numbers)
