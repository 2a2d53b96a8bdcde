"""What counts as a whole number."""


def is_whole(thing):
    """Tell whether a thing, whatever it is, is a whole number."""
    # Python counts True and False among the ints.
    return isinstance(thing, int) and not isinstance(thing, bool)
