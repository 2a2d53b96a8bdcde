import itertools
import math
import random
import unittest
from fractions import Fraction

from emptierbox.layers import bound, is_layers, least_layers
from emptierbox.means import fullest_share, many_share
from emptierbox.rules import drawn, mixed, unlike
from emptierbox.shares import is_less
from emptierbox.spreads import after, alone
from emptierbox.tails import tail
from tests.things import anything, assert_plain, chance_rule, long_rule, one_rank, some_rules, told


def slow_tail(tries, s, b):
    """By how many ways so many of the tries come."""
    return sum((math.comb(tries, come) * s ** come * (1 - s) ** (tries - come)
                for come in range(max(b, 0), tries + 1)), Fraction(0))


def all_tries(tries, s, b):
    """All rows of tries gone through one by one."""
    found = Fraction(0)
    for row in itertools.product((True, False), repeat=tries):
        if sum(row) >= b:
            found += math.prod(s if comes else 1 - s for comes in row)
    return found


def slow_bound(rule, balls, layers):
    """Part by part, by the words of the document."""
    found = Fraction(0)
    for k in range(1, len(layers)):
        if layers[k] != len(rule) and k * (layers[k] + 1) <= balls:
            ahead = sum((Fraction(*share) for share in rule[:layers[k - 1]]), Fraction(0))
            found += slow_tail(balls, ahead, layers[k] + 1)
    return told(found)


def all_layers(n, m):
    """All layers of n boxes with m numbers behind the first."""
    for numbers in itertools.combinations_with_replacement(range(n, -1, -1), m):
        yield (n, *numbers)


def passing(spread, layers):
    """The share of the loads in which for some k more than bk boxes hold at least k balls."""
    return sum((Fraction(*share) for load, share in spread
                if any(sum(number >= k for number in load) > layers[k] for k in range(1, len(layers)))), Fraction(0))


class Tail(unittest.TestCase):
    def test_by_hand(self):
        self.assertEqual(tail(3, (1, 2), 2), (1, 2))
        self.assertEqual(tail(2, (1, 3), 1), (5, 9))
        self.assertEqual(tail(2, (1, 3), 2), (1, 9))
        self.assertEqual(tail(24, (1, 2), 24), (1, 2 ** 24))

    def test_all_rows_of_tries(self):
        for tries in range(8):
            for s in (Fraction(0), Fraction(1), Fraction(1, 2), Fraction(2, 7), Fraction(999, 1000)):
                for b in range(-2, tries + 3):
                    self.assertEqual(tail(tries, told(s), b), told(all_tries(tries, s, b)))

    def test_by_ways(self):
        for tries in range(25):
            for s in (Fraction(0), Fraction(1), Fraction(1, 3), Fraction(5, 6), Fraction(1, 10 ** 29)):
                for b in [-(10 ** 29), *range(-1, tries + 3), 10 ** 29]:
                    self.assertEqual(tail(tries, told(s), b), told(slow_tail(tries, s, b)))
                    assert_plain(self, tail(tries, told(s), b))

    def test_edges(self):
        for tries in range(25):
            for s in ((0, 1), (1, 1), (1, 2), (3, 1000)):
                for b in (0, -1, -(10 ** 29)):
                    self.assertEqual(tail(tries, s, b), (1, 1))
                for b in (tries + 1, tries + 2, 10 ** 29):
                    self.assertEqual(tail(tries, s, b), (0, 1))
            for b in range(1, tries + 1):
                self.assertEqual(tail(tries, (0, 1), b), (0, 1))
                self.assertEqual(tail(tries, (1, 1), b), (1, 1))

    def test_long_numbers(self):
        s = Fraction(10 ** 1998 + 7, 10 ** 1999 + 9)
        self.assertEqual(tail(24, told(s), 3), told(slow_tail(24, s, 3)))


class IsLayers(unittest.TestCase):
    def test_layers(self):
        for n in range(1, 13):
            rule = drawn(n, 2)
            for m in range(1, 7):
                for thing in ((n,) + (0,) * m, (n,) * (m + 1), (n,) + (n // 2,) * m):
                    self.assertIs(is_layers(rule, thing), True)
        self.assertIs(is_layers(drawn(4, 2), (4, 3, 2, 0)), True)
        self.assertIs(is_layers(drawn(12, 2), (12, 12, 11, 7, 7, 1, 0)), True)

    def test_all_small_tuples(self):
        for n in (1, 2, 3):
            for many in range(5):
                for thing in itertools.product(range(-1, 5), repeat=many):
                    wanted = (many >= 2 and thing[0] == n and min(thing) >= 0
                              and list(thing) == sorted(thing, reverse=True))
                    self.assertIs(is_layers(drawn(n, 2), thing), wanted)

    def test_how_many_numbers(self):
        for n in range(1, 13):
            self.assertIs(is_layers(drawn(n, 2), (n,)), False)
            self.assertIs(is_layers(drawn(n, 2), (n,) + (0,) * 6), True)
            self.assertIs(is_layers(drawn(n, 2), (n,) + (0,) * 7), False)
        self.assertIs(is_layers(drawn(2, 2), ()), False)

    def test_it_begins_with_the_boxes(self):
        for n in range(1, 13):
            for other in range(13):
                self.assertIs(is_layers(drawn(n, 2), (other, 0)), other == n)

    def test_truths_and_other_kinds(self):
        one = ((1, 1),)
        for thing in [(True, 0), (1, False), (1, True), (True, True), (True, False), [1, 0], {1: 0}, "10", (1, None),
                      ("1", "0"), ((1, 0),), (1, (0,)), (1, "0"), ((1,), (0,)), [(1, 0)], (1, -1), (1, 0, -1), (1, 2),
                      (1, 0, 1), {0: 1, 1: 0}, 1, (1, [])]:
            self.assertIs(is_layers(one, thing), False)
        self.assertIs(is_layers(one, (1, 0)), True)
        self.assertIs(is_layers(one, (1, 1, 0)), True)

    def test_anything(self):
        for n in (3, 7, 12):
            for thing in anything():
                shown = repr(thing)
                self.assertIs(is_layers(drawn(n, 2), thing), False, shown[:60])
                self.assertEqual(repr(thing), shown)


class Bound(unittest.TestCase):
    def test_by_hand(self):
        even = ((1, 2), (1, 2))
        self.assertEqual(bound(even, 2, (2, 0)), (1, 1))
        self.assertEqual(bound(even, 2, (2, 1)), (1, 1))
        self.assertEqual(bound(even, 2, (2, 2)), (0, 1))
        self.assertEqual(bound(even, 2, (2, 1, 0)), (7, 4))
        self.assertEqual(bound(even, 1, (2, 1, 0)), (0, 1))
        self.assertEqual(bound(even, 3, (2, 2, 1, 0)), (7, 8))
        self.assertEqual(bound(even, 3, (2, 2, 0)), (1, 1))

    def test_nought_where_a_number_is_that_of_the_boxes(self):
        for n in range(1, 13):
            for balls in (0, 1, 12, 24):
                for m in range(1, 7):
                    self.assertEqual(bound(drawn(n, 2), balls, (n,) * (m + 1)), (0, 1))

    def test_nought_where_there_are_too_few_balls(self):
        rule = drawn(4, 1)
        self.assertEqual(bound(rule, 1, (4, 1)), (0, 1))
        self.assertEqual(bound(rule, 2, (4, 1)), (1, 1))
        self.assertEqual(bound(rule, 3, (4, 4, 1)), (0, 1))
        self.assertEqual(bound(rule, 4, (4, 4, 1)), (1, 1))
        self.assertEqual(bound(rule, 11, (4, 4, 4, 3)), (0, 1))
        self.assertEqual(bound(rule, 12, (4, 4, 4, 3)), (1, 1))
        for balls in range(25):
            self.assertEqual(bound(rule, balls, (4, 4, 1)), slow_bound(rule, balls, (4, 4, 1)))
            self.assertEqual(bound(rule, balls, (4, 2, 1, 0)), slow_bound(rule, balls, (4, 2, 1, 0)))

    def test_part_by_part(self):
        for n in (1, 2, 3):
            for rule in some_rules(n, 2):
                for balls in range(8):
                    for m in range(1, 5):
                        for layers in all_layers(n, m):
                            self.assertEqual(bound(rule, balls, layers), slow_bound(rule, balls, layers))

    def test_up_to_twelve_boxes(self):
        chance = random.Random(30)
        for n in range(1, 13):
            for rule in some_rules(n, 2) + [drawn(n, 2), unlike(n, 1)]:
                for turn in range(3):
                    numbers = [chance.randrange(n + 1) for k in range(chance.randrange(1, 7))]
                    layers = (n, *sorted(numbers, reverse=True))
                    balls = chance.randrange(25)
                    self.assertTrue(is_layers(rule, layers))
                    self.assertEqual(bound(rule, balls, layers), slow_bound(rule, balls, layers))
                    assert_plain(self, bound(rule, balls, layers))

    def test_it_may_be_above_one(self):
        self.assertEqual(bound(drawn(3, 1), 24, (3, 0, 0)), told(1 + slow_tail(24, Fraction(0), 1)))
        self.assertTrue(is_less((1, 1), bound(drawn(3, 1), 24, (3, 2, 1, 0))))

    def test_told_rules(self):
        rule = mixed((7, 999), drawn(12, 4), unlike(12, 3))
        for layers in ((12, 9, 5, 0), (12, 12, 12, 6, 4, 2, 0)):
            self.assertEqual(bound(rule, 24, layers), slow_bound(rule, 24, layers))
        rule = long_rule(3, 1900)
        self.assertEqual(bound(rule, 3, (3, 2, 1, 0)), slow_bound(rule, 3, (3, 2, 1, 0)))

    def test_no_share_of_the_loads_passes_it(self):
        telling = 0
        for n in (1, 2, 3, 4):
            for rule in some_rules(n) + [drawn(n, 2), drawn(n, 3)]:
                for balls in range(8):
                    spread = after(rule, alone((0,) * n), balls)
                    for m in range(1, 4):
                        for layers in all_layers(n, m):
                            share, most = passing(spread, layers), Fraction(*bound(rule, balls, layers))
                            self.assertLessEqual(share, most)
                            telling += 0 < share and most < 1
        self.assertGreater(telling, 100)

    def test_one_layer_is_the_share_of_many_boxes(self):
        for balls in range(8):
            spread = after(drawn(3, 2), alone((0, 0, 0)), balls)
            for b in range(4):
                self.assertFalse(is_less(bound(drawn(3, 2), balls, (3, b)), many_share(spread, 1, b + 1)))


class LeastLayers(unittest.TestCase):
    def check(self, rule, balls, m):
        answer = least_layers(rule, balls, m)
        assert_plain(self, answer)
        self.assertIs(type(answer), tuple)
        least, layers = answer
        self.assertTrue(is_layers(rule, layers))
        self.assertEqual(len(layers), m + 1)
        self.assertEqual(layers[-1], 0)
        self.assertEqual(bound(rule, balls, layers), least)
        return least

    def test_by_hand(self):
        self.assertEqual(least_layers(((1, 1),), 0, 1), ((0, 1), (1, 0)))
        self.assertEqual(least_layers(((1, 1),), 5, 1), ((1, 1), (1, 0)))
        self.assertEqual(least_layers(drawn(2, 1), 2, 3)[0], (0, 1))
        self.assertEqual(least_layers(drawn(2, 1), 3, 3)[0], slow_bound(drawn(2, 1), 3, (2, 2, 1, 0)))

    def test_all_layers_gone_through(self):
        chance = random.Random(31)
        for n, most in ((1, 6), (2, 6), (3, 5), (4, 4), (6, 3)):
            for rule in some_rules(n, 3) + [drawn(n, 2)]:
                for m in range(1, most + 1):
                    for balls in [0, 1, m, 24] + [chance.randrange(25) for turn in range(2)]:
                        wanted = min(Fraction(*slow_bound(rule, balls, layers))
                                     for layers in all_layers(n, m) if layers[-1] == 0)
                        self.assertEqual(self.check(rule, balls, m), told(wanted))

    def test_the_fullest_box(self):
        for n in (1, 2, 3, 4):
            for rule in (drawn(n, 1), drawn(n, 2), drawn(n, 3), one_rank(n, n - 1)):
                for balls in range(9):
                    spread = after(rule, alone((0,) * n), balls)
                    for m in range(1, 7):
                        self.assertFalse(is_less(self.check(rule, balls, m), fullest_share(spread, m)))

    def test_twelve_boxes_and_six_layers(self):
        chance = random.Random(32)
        for rule in (drawn(12, 2), drawn(12, 4), unlike(12, 3), chance_rule(chance, 12), one_rank(12, 11)):
            for balls in (0, 5, 6, 23, 24):
                least = Fraction(*self.check(rule, balls, 6))
                for turn in range(200):
                    layers = (12, *sorted((chance.randrange(13) for k in range(5)), reverse=True), 0)
                    self.assertLessEqual(least, Fraction(*bound(rule, balls, layers)))

    def test_no_balls(self):
        for n in range(1, 13):
            for m in range(1, 7):
                self.assertEqual(self.check(drawn(n, 2), 0, m), (0, 1))

    def test_long_numbers(self):
        self.check(long_rule(3, 900), 6, 3)


if __name__ == "__main__":
    unittest.main()
