"""What the tests hand in where a function takes anything, and how they ask for refusals."""

import random
from fractions import Fraction

from emptierbox import errors

REFUSALS = (
    errors.NoShare, errors.NoBall, errors.Unlike, errors.Fuller, errors.TooMany,
    errors.NoBack, errors.NoName, errors.NoText, errors.NoRow,
)


def nested(kind, depth):
    """A tuple, list or dict that holds one such thing, and so on, depth deep."""
    thing = 1
    for level in range(depth):
        thing = {level: thing} if kind is dict else kind([thing])
    return thing


def anything():
    """Things of all kinds that may be looked at; none of them is a share, a load or a list of moves."""
    plain = [True, False, None, 0, 1, -1, 10 ** 199, -10 ** 199, "", "a", "1/2", "(1, 2)"]
    containers = [(), {}, {1: 2}, {0: 1, 1: 2}, {"top": 1, "bottom": 2}, [1], [1, 2], [[1, 2]], [None],
                  (None,), (None, None), ("1", "2"), ("a",), ([],), ({},), ((),), ((), ()), ([1], [2]),
                  ({}, {}), ((1, 2), (1, 3)), ((1,), 2), (1, (2,)), (True, 2), (1, True), (1, None),
                  (None, 1), (1, "2"), ("1", 2), (True,), (False,), (-1,), (1, False), (True, False)]
    deep = [nested(kind, 8) for kind in (tuple, list, dict)]
    deep += [(nested(kind, 7), 1) for kind in (tuple, list, dict)]
    deep += [[(nested(kind, 6), 1)] for kind in (tuple, list, dict)]
    long = [(0,) * 9999, [0] * 9999, "7" * 9999, {at: at for at in range(4999)}, ((1, 2),) * 3000,
            [(1, 2)] * 3000, [()] * 9999, [(5, 5)] * 3000]
    return plain + containers + deep + long


def assert_refused(case, refusal, deed, *handed):
    """The deed is refused with this class alone, and what was handed in stays as it was."""
    shown = repr(handed)
    with case.assertRaises(ValueError) as caught:
        deed(*handed)
    case.assertIs(type(caught.exception), refusal)
    case.assertIsInstance(caught.exception, errors.BallError)
    for other in REFUSALS:
        case.assertEqual(isinstance(caught.exception, other), other is refusal)
    case.assertEqual(repr(handed), shown)


def assert_plain(case, told):
    """What is told is of Python's own kinds through and through."""
    case.assertIn(type(told), (int, bool, str, tuple, list, dict, type(None)))
    if type(told) in (tuple, list):
        for part in told:
            assert_plain(case, part)


def told(fraction):
    """A fraction as the program tells it."""
    return (fraction.numerator, fraction.denominator)


def tell(fractions):
    return tuple(told(Fraction(one)) for one in fractions)


def chance_rule(chance, n, most=40):
    """A rule of n boxes by chance, often with ranks that have the share nought."""
    while True:
        tops = [chance.choice((0, 1, 2, chance.randrange(most))) for rank in range(n)]
        if sum(tops) > 0:
            return tell(Fraction(top, sum(tops)) for top in tops)


def one_rank(n, rank):
    """The rule that puts each ball at one rank."""
    return tuple((int(at == rank), 1) for at in range(n))


def some_rules(n, many=4):
    """Rules of n boxes: of one rank alone, all ranks alike, others by chance."""
    chance = random.Random(n)
    found = [one_rank(n, 0), one_rank(n, n - 1), one_rank(n, n // 2), tell([Fraction(1, n)] * n)]
    return found + [chance_rule(chance, n) for turn in range(many)]


def chance_spread(chance, loads):
    """A spread of these loads by chance."""
    tops = [chance.randrange(1, 30) for load in loads]
    return [(load, told(Fraction(top, sum(tops)))) for load, top in zip(sorted(loads), tops)]


def long_rule(n, figures):
    """A rule of n boxes whose shares have some so many figures."""
    chance = random.Random(figures)
    while True:
        tops = [chance.randrange(1, 10 ** figures // n) for rank in range(n - 1)]
        bottom = 10 ** figures + 1
        rule = tell(Fraction(top, bottom) for top in tops + [bottom - sum(tops)])
        if max(share[1] for share in rule) > 10 ** (figures - 9):
            return rule


def chance_net(seed, most=40, boxes=None):
    """A net by chance."""
    chance = random.Random(seed)
    n = boxes or chance.randrange(1, 7)
    pairs = [(chance.randrange(n), chance.randrange(n)) for at in range(chance.randrange(1, most + 1))]
    return (n, tuple(pairs), chance.choice(("left", "dice")))


def chance_stand(chance, n, most=4):
    """A stand of n boxes by chance."""
    return tuple(chance.randrange(most + 1) for box in range(n))
