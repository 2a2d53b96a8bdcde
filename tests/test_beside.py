import random
import unittest
from fractions import Fraction

from emptierbox.beside import fuller_at, parting
from emptierbox.errors import Unlike
from emptierbox.loads import is_load
from emptierbox.means import first_mean
from emptierbox.rules import drawn, mixed, unlike
from emptierbox.shares import is_less
from emptierbox.spreads import alone, put
from tests.things import assert_plain, assert_refused, chance_rule, long_rule, one_rank, some_rules


def least_k(one, other):
    for k in range(len(one) + 1):
        if sum(Fraction(*share) for share in one[:k]) > sum(Fraction(*share) for share in other[:k]):
            return k
    return None


def pairs():
    chance = random.Random(16)
    for n in range(1, 13):
        for one in some_rules(n):
            for other in some_rules(n):
                yield one, other
        for turn in range(40):
            # Few tops, so that often the one is no fuller.
            yield chance_rule(chance, n, 3), chance_rule(chance, n, 3)
    yield long_rule(5, 1900), long_rule(5, 1899)
    yield long_rule(12, 1900), long_rule(12, 1899)


class FullerAt(unittest.TestCase):
    def test_by_hand(self):
        self.assertIsNone(fuller_at(drawn(3, 2), drawn(3, 1)))
        self.assertEqual(fuller_at(drawn(3, 1), drawn(3, 2)), 1)
        self.assertIsNone(fuller_at(((1, 1),), ((1, 1),)))
        one, other = ((1, 4), (1, 2), (1, 4)), ((1, 2), (0, 1), (1, 2))
        self.assertEqual(fuller_at(one, other), 2)
        self.assertEqual(fuller_at(other, one), 1)
        self.assertEqual(fuller_at(((0, 1),) * 10 + ((1, 1), (0, 1)), one_rank(12, 11)), 11)

    def test_all_pairs(self):
        told = []
        for one, other in pairs():
            told.append(fuller_at(one, other))
            self.assertEqual(told[-1], least_k(one, other))
            assert_plain(self, told[-1])
        self.assertGreater(told.count(None), 50)
        self.assertEqual({k for k in told if k is not None} - set(range(1, 12)), set())

    def test_of_itself(self):
        for one, other in pairs():
            self.assertIsNone(fuller_at(one, one))

    def test_not_as_many_boxes(self):
        for n in range(1, 13):
            for boxes in range(1, 13):
                if n != boxes:
                    assert_refused(self, Unlike, fuller_at, one_rank(n, 0), drawn(boxes, 2))
                    assert_refused(self, Unlike, parting, one_rank(n, 0), drawn(boxes, 2))


class WhatIsNoFuller(unittest.TestCase):
    def test_more_drawn_boxes(self):
        for n in range(1, 13):
            for fewer in range(1, 5):
                for more in range(fewer, 5):
                    self.assertIsNone(fuller_at(drawn(n, more), drawn(n, fewer)))
                    if n > 1 and more > fewer:
                        self.assertEqual(fuller_at(drawn(n, fewer), drawn(n, more)), 1)

    def test_more_unlike_boxes(self):
        for n in range(1, 13):
            for fewer in range(1, n + 1):
                for more in range(fewer, n + 1):
                    self.assertIsNone(fuller_at(unlike(n, more), unlike(n, fewer)))
                    if more > fewer:
                        self.assertIsNotNone(fuller_at(unlike(n, fewer), unlike(n, more)))

    def test_as_many_unlike_boxes_as_drawn(self):
        for n in range(1, 13):
            for many in range(1, min(n, 4) + 1):
                self.assertIsNone(fuller_at(unlike(n, many), drawn(n, many)))

    def test_a_mixture_is_between(self):
        between = 0
        for one, other in pairs():
            if least_k(one, other) is None:
                between += 1
                for share in ((0, 1), (1, 1), (1, 2), (3, 7)):
                    self.assertIsNone(fuller_at(one, mixed(share, one, other)))
                    self.assertIsNone(fuller_at(mixed(share, one, other), other))
        self.assertGreater(between, 50)


class Parting(unittest.TestCase):
    def test_by_hand(self):
        self.assertIsNone(parting(drawn(3, 2), drawn(3, 1)))
        self.assertEqual(parting(drawn(3, 1), drawn(3, 2)), ((4, 2, 0), 1))
        self.assertEqual(parting(drawn(6, 1), drawn(6, 2)), ((10, 8, 6, 4, 2, 0), 1))
        self.assertEqual(parting(((1, 4), (1, 2), (1, 4)), ((1, 2), (0, 1), (1, 2))), ((4, 2, 0), 2))
        self.assertEqual(parting(((1, 1), (0, 1)), ((0, 1), (1, 1))), ((2, 0), 1))
        self.assertIsNone(parting(((1, 1),), ((1, 1),)))

    def test_the_means_behind_one_ball(self):
        parted = 0
        for one, other in pairs():
            if len(one) > 6:
                continue
            told = parting(one, other)
            assert_plain(self, told)
            if least_k(one, other) is None:
                self.assertIsNone(told)
                continue
            parted += 1
            load, k = told
            self.assertIs(type(told), tuple)
            self.assertEqual(load, tuple(range(2 * len(one) - 2, -1, -2)))
            self.assertTrue(is_load(load))
            self.assertEqual(k, least_k(one, other))
            means = [first_mean(put(rule, alone(load)), k) for rule in (other, one)]
            self.assertTrue(is_less(*means))
        self.assertGreater(parted, 50)


if __name__ == "__main__":
    unittest.main()
