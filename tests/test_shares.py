import random
import unittest
from fractions import Fraction

from emptierbox.errors import NoShare
from emptierbox.shares import is_less, is_share, minus, over, parted, plus, share, times, total, weighed
from tests.things import anything, assert_plain, assert_refused


def told(fraction):
    return (fraction.numerator, fraction.denominator)


def small_shares():
    return sorted({told(Fraction(top, bottom)) for top in range(-7, 8) for bottom in range(1, 7)})


def long_shares():
    """Shares of two thousand figures, some with parts in common, below 0, between 0 and 1, above 1."""
    chance = random.Random(4)
    low, high = 10 ** 1999, 10 ** 2000
    some = [Fraction(chance.randrange(low, high), chance.randrange(low, high)) for at in range(3)]
    half = 10 ** 999 + 7
    some.append(Fraction(-(10 ** 1999 + 1), half * (10 ** 999 + 9)))
    some.append(Fraction(3, half * (10 ** 999 + 33)))
    some.append(Fraction(-(10 ** 1999), 7))
    return some


def neighbours(figures):
    """Two numbers of so many figures whose measure takes the most steps."""
    a, b = 1, 1
    while b < 10 ** (figures - 1):
        a, b = b, a + b
    return a, b


class TheShareOfTwoNumbers(unittest.TestCase):
    def test_lowest_terms_of_all_signs(self):
        self.assertEqual(share(6, 8), (3, 4))
        self.assertEqual(share(-6, 8), (-3, 4))
        self.assertEqual(share(6, -8), (-3, 4))
        self.assertEqual(share(-6, -8), (3, 4))
        self.assertEqual(share(8, 2), (4, 1))
        self.assertEqual(share(8, -2), (-4, 1))
        self.assertEqual(share(1, 1), (1, 1))
        self.assertEqual(share(5, 7), (5, 7))

    def test_nought(self):
        for bottom in (1, 2, 12, -1, -5, 10 ** 99, -(10 ** 99)):
            self.assertEqual(share(0, bottom), (0, 1))

    def test_all_small_numbers(self):
        for top in range(-30, 31):
            for bottom in range(-30, 31):
                if bottom != 0:
                    self.assertEqual(share(top, bottom), told(Fraction(top, bottom)))

    def test_a_bottom_of_nought_is_refused(self):
        for top in (0, 1, -1, 12, 10 ** 99, -(10 ** 99)):
            assert_refused(self, NoShare, share, top, 0)

    def test_a_hundred_figures(self):
        chance = random.Random(1)
        for turn in range(200):
            common = chance.randrange(1, 10 ** chance.randrange(1, 50))
            top = common * chance.randrange(-(10 ** 50), 10 ** 50)
            bottom = common * chance.choice((-1, 1)) * chance.randrange(1, 10 ** 50)
            self.assertEqual(share(top, bottom), told(Fraction(top, bottom)))
        self.assertEqual(share(10 ** 100 - 1, 10 ** 100 - 1), (1, 1))
        self.assertEqual(share(10 ** 99, -(10 ** 98)), (-10, 1))

    def test_no_measure_goes_too_deep(self):
        for figures in (100, 2000):
            a, b = neighbours(figures)
            self.assertEqual(share(a, b), (a, b))
            self.assertEqual(share(3 * b, -3 * a), (-b, a))
            self.assertTrue(is_share((a, b)))
            self.assertFalse(is_share((3 * a, 3 * b)))

    def test_what_is_told_is_a_plain_tuple(self):
        for answer in (share(0, -3), share(4, -6), plus((1, 2), (1, 2)), total([]), over((1, 2), (-1, 3))):
            assert_plain(self, answer)
            self.assertIs(type(answer), tuple)
            self.assertTrue(is_share(answer))


class Reckoning(unittest.TestCase):
    def check_two(self, a, b):
        one, other = told(a), told(b)
        self.assertEqual(plus(one, other), told(a + b))
        self.assertEqual(minus(one, other), told(a - b))
        self.assertEqual(times(one, other), told(a * b))
        self.assertIs(is_less(one, other), a < b)
        if b == 0:
            assert_refused(self, NoShare, over, one, other)
        else:
            self.assertEqual(over(one, other), told(a / b))

    def test_by_hand(self):
        self.assertEqual(plus((1, 6), (1, 3)), (1, 2))
        self.assertEqual(plus((1, 2), (-1, 2)), (0, 1))
        self.assertEqual(minus((1, 6), (1, 3)), (-1, 6))
        self.assertEqual(minus((5, 4), (1, 4)), (1, 1))
        self.assertEqual(times((-2, 3), (9, 4)), (-3, 2))
        self.assertEqual(over((1, 2), (-3, 4)), (-2, 3))
        self.assertEqual(over((0, 1), (-3, 4)), (0, 1))
        self.assertEqual(over((7, 1), (7, 1)), (1, 1))

    def test_all_small_shares(self):
        for one in small_shares():
            for other in small_shares():
                self.check_two(Fraction(*one), Fraction(*other))

    def test_thirty_figures(self):
        chance = random.Random(2)
        for turn in range(300):
            some = [Fraction(chance.randrange(-(10 ** 30), 10 ** 30), chance.randrange(1, 10 ** 30)) for at in (0, 1)]
            self.check_two(*some)

    def test_two_thousand_figures(self):
        for a in long_shares():
            for b in long_shares():
                self.check_two(a, b)

    def test_nothing_is_divided_by_nought(self):
        for one in ((0, 1), (1, 1), (-3, 4), (10 ** 99, 7)):
            assert_refused(self, NoShare, over, one, (0, 1))


class Total(unittest.TestCase):
    def test_of_none(self):
        self.assertEqual(total([]), (0, 1))

    def test_of_some(self):
        self.assertEqual(total([(3, 4)]), (3, 4))
        self.assertEqual(total([(1, 6), (1, 3), (1, 2)]), (1, 1))
        self.assertEqual(total([(1, 2), (-3, 2), (1, 1)]), (0, 1))
        self.assertEqual(total([(-1, 2), (-3, 2)]), (-2, 1))

    def test_of_many(self):
        chance = random.Random(3)
        for turn in range(50):
            some = [Fraction(chance.randrange(-99, 99), chance.randrange(1, 99)) for at in range(turn)]
            self.assertEqual(total([told(one) for one in some]), told(sum(some, Fraction(0))))

    def test_of_two_thousand_figures(self):
        some = long_shares()
        self.assertEqual(total([told(one) for one in some]), told(sum(some)))

    def test_of_a_long_list(self):
        some = [(1, bottom) for bottom in range(1, 2001)]
        self.assertEqual(total(some), told(sum(Fraction(*one) for one in some)))

    def test_the_list_stays_as_it_was(self):
        some = [(1, 2), (0, 1), (-1, 3)]
        total(some)
        self.assertEqual(some, [(1, 2), (0, 1), (-1, 3)])


class OverSomeBottoms(unittest.TestCase):
    def test_parted(self):
        for top in range(-12, 13):
            for bottoms in ([], [1], [6], [4, 6], [2, 2, 3], [12, 1, 5, 6]):
                wanted = Fraction(top)
                for bottom in bottoms:
                    wanted /= bottom
                self.assertEqual(parted(top, bottoms), told(wanted))

    def test_weighed(self):
        self.assertEqual(weighed([]), ([], 1))
        self.assertEqual(weighed([(1, 6), (-3, 4), (0, 1), (5, 1)]), ([2, -9, 0, 60], 12))


class IsLess(unittest.TestCase):
    def test_by_hand(self):
        self.assertIs(is_less((1, 3), (1, 2)), True)
        self.assertIs(is_less((1, 2), (1, 3)), False)
        self.assertIs(is_less((1, 2), (1, 2)), False)
        self.assertIs(is_less((-1, 2), (-1, 3)), True)
        self.assertIs(is_less((-5, 1), (0, 1)), True)
        self.assertIs(is_less((0, 1), (-5, 1)), False)
        self.assertIs(is_less((7, 2), (11, 3)), True)


class IsShare(unittest.TestCase):
    def test_shares(self):
        for thing in [(0, 1), (1, 1), (-1, 1), (3, 4), (-3, 4), (7, 2), (10 ** 199, 10 ** 199 + 1), (-(10 ** 199), 7)]:
            self.assertIs(is_share(thing), True)

    def test_all_pairs_of_small_numbers(self):
        shares = small_shares()
        for top in range(-7, 8):
            for bottom in range(-6, 7):
                self.assertIs(is_share((top, bottom)), (top, bottom) in shares)

    def test_common_measures(self):
        for thing in [(2, 4), (-2, 4), (0, 2), (5, 5), (6, 3), (10 ** 199, 10 ** 198), (3 ** 400, 3)]:
            self.assertIs(is_share(thing), False)

    def test_bottoms_below_one(self):
        for thing in [(1, 0), (0, 0), (-1, 0), (1, -1), (3, -4), (0, -1), (1, -(10 ** 199))]:
            self.assertIs(is_share(thing), False)

    def test_truths_are_no_whole_numbers(self):
        for thing in [(True, 1), (1, True), (False, 1), (True, True), (True, 2), (3, True), (False, True)]:
            self.assertIs(is_share(thing), False)

    def test_other_kinds_and_numbers_of_parts(self):
        for thing in [[3, 4], [0, 1], {3: 4}, {0: 3, 1: 4}, (), (3,), (3, 4, 5), (3, 4, 1), "3/4", "34", 3, (3, "4"),
                      ((3, 4),), ((3, 4), 5), (3, (4,)), ((3,), (4,)), (3, None), (None, 4), ([3], 4), (3, {4: 1})]:
            self.assertIs(is_share(thing), False)

    def test_anything(self):
        for thing in anything():
            shown = repr(thing)
            self.assertIs(is_share(thing), False, shown[:60])
            self.assertEqual(repr(thing), shown)


if __name__ == "__main__":
    unittest.main()
