import random
import unittest
from fractions import Fraction

from emptierbox.loads import all_loads
from emptierbox.means import first_mean, fullest_share, many_share, mean
from emptierbox.rules import drawn
from emptierbox.spreads import after, alone
from tests.things import assert_plain, chance_spread, long_rule, told

SPREAD = [((2, 2, 1), (1, 2)), ((3, 1, 1), (1, 3)), ((5, 0, 0), (1, 6))]


def some_spreads():
    chance = random.Random(15)
    yield alone((0,))
    yield alone((0, 0, 0, 0, 0, 0))
    yield alone((7,))
    yield SPREAD
    for n, balls in ((1, 5), (2, 9), (3, 8), (4, 7), (5, 6), (6, 12)):
        for turn in range(3):
            loads = all_loads(n, balls)
            yield chance_spread(chance, chance.sample(loads, chance.randrange(1, len(loads) + 1)))
    yield chance_spread(chance, all_loads(4, 20))
    yield after(drawn(3, 2), alone((2, 0, 0)), 9)
    yield after(long_rule(2, 1900), alone((0, 0)), 1)


def slow_mean(spread, deed):
    return told(sum((Fraction(*share) * deed(load) for load, share in spread), Fraction(0)))


class Mean(unittest.TestCase):
    def test_by_hand(self):
        self.assertEqual(mean(SPREAD, "fullest"), (17, 6))
        self.assertEqual(mean(SPREAD, "emptiest"), (5, 6))
        self.assertEqual(mean(SPREAD, "gap"), (2, 1))
        self.assertEqual(mean(SPREAD, "squares"), (37, 3))
        for word in ("fullest", "emptiest"):
            self.assertEqual(mean(alone((7,)), word), (7, 1))
        self.assertEqual(mean(alone((7,)), "gap"), (0, 1))
        self.assertEqual(mean(alone((7,)), "squares"), (49, 1))

    def test_the_four_words(self):
        deeds = {"fullest": max, "emptiest": min, "gap": lambda load: max(load) - min(load),
                 "squares": lambda load: sum(number ** 2 for number in load)}
        for spread in some_spreads():
            shown = repr(spread)
            for word, deed in deeds.items():
                self.assertEqual(mean(spread, word), slow_mean(spread, deed))
                assert_plain(self, mean(spread, word))
            self.assertEqual(repr(spread), shown)


class FirstMean(unittest.TestCase):
    def test_by_hand(self):
        self.assertEqual([first_mean(SPREAD, k) for k in range(4)], [(0, 1), (17, 6), (25, 6), (5, 1)])

    def test_each_k(self):
        for spread in some_spreads():
            boxes = len(spread[0][0])
            for k in range(boxes + 1):
                self.assertEqual(first_mean(spread, k), slow_mean(spread, lambda load: sum(load[:k])))
                assert_plain(self, first_mean(spread, k))
            self.assertEqual(first_mean(spread, 0), (0, 1))
            self.assertEqual(first_mean(spread, boxes), (sum(spread[0][0]), 1))


class FullestShare(unittest.TestCase):
    def test_by_hand(self):
        self.assertEqual([fullest_share(SPREAD, m) for m in range(-1, 7)],
                         [(1, 1), (1, 1), (1, 1), (1, 1), (1, 2), (1, 6), (1, 6), (0, 1)])

    def test_each_number(self):
        for spread in some_spreads():
            for m in [-(10 ** 29), *range(-3, 45), 10 ** 29]:
                self.assertEqual(fullest_share(spread, m), slow_mean(spread, lambda load: load[0] >= m))
                assert_plain(self, fullest_share(spread, m))
            self.assertEqual(fullest_share(spread, -(10 ** 29)), (1, 1))
            self.assertEqual(fullest_share(spread, 10 ** 29), (0, 1))


class ManyShare(unittest.TestCase):
    def test_by_hand(self):
        self.assertEqual([many_share(SPREAD, 1, b) for b in range(-1, 5)],
                         [(1, 1), (1, 1), (1, 1), (5, 6), (5, 6), (0, 1)])
        self.assertEqual([many_share(SPREAD, 2, b) for b in range(5)], [(1, 1), (1, 1), (1, 2), (0, 1), (0, 1)])
        self.assertEqual([many_share(SPREAD, 0, b) for b in range(5)], [(1, 1), (1, 1), (1, 1), (1, 1), (0, 1)])

    def test_each_two_numbers(self):
        for spread in some_spreads():
            for m in [-(10 ** 29), *range(-2, 9), 40, 10 ** 29]:
                for b in [-(10 ** 29), *range(-2, 9), 10 ** 29]:
                    wanted = slow_mean(spread, lambda load: sum(number >= m for number in load) >= b)
                    self.assertEqual(many_share(spread, m, b), wanted)
                    assert_plain(self, many_share(spread, m, b))

    def test_one_box(self):
        for spread in some_spreads():
            for m in range(-2, 9):
                self.assertEqual(many_share(spread, m, 1), fullest_share(spread, m))


if __name__ == "__main__":
    unittest.main()
