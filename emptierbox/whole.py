"""What counts as a whole number, and as two places."""


def is_whole(thing):
    """Tell whether a thing, whatever it is, is a whole number."""
    # Python counts True and False among the ints.
    return isinstance(thing, int) and not isinstance(thing, bool)


def is_two_places(thing, many):
    """Tell whether a thing, whatever it is, is a tuple of two whole numbers from 0 to below many."""
    if not isinstance(thing, tuple) or len(thing) != 2:
        return False
    return all([is_whole(place) and place >= 0 and place < many for place in thing])
