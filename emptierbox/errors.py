"""The refusals of the program, one class for each."""


class BallError(ValueError):
    """Any refusal."""


class NoShare(BallError):
    """Nothing can be divided by nought."""


class NoBall(BallError):
    """No ball is there that could be taken."""


class Unlike(BallError):
    """Two things that aren't alike in kind were held against one another."""


class Fuller(BallError):
    """A load that must be no fuller than the one beside it is fuller."""


class TooMany(BallError):
    """More things would be told than the program tells."""


class NoBack(BallError):
    """No deed is left to take back."""


class NoName(BallError):
    """Nothing fitting stands by a name, or a name isn't written as one."""


class NoText(BallError):
    """A text writes nothing of the kind that was asked for."""


class NoRow(BallError):
    """A row is none of those that a desk knows."""
