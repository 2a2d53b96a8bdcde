import itertools
import random
import unittest
from fractions import Fraction

from emptierbox.beside import fuller_at
from emptierbox.errors import Unlike
from emptierbox.rules import drawn, is_rule, mixed, unlike
from tests.things import anything, assert_plain, assert_refused, long_rule, one_rank, some_rules, tell, told


def by_draws(n, rows):
    """The shares of the emptiest box's rank in rows of drawn ranks, each row alike."""
    counts = [0] * n
    for row in rows:
        counts[max(row)] += 1
    return tell(Fraction(count, sum(counts)) for count in counts)


class IsRule(unittest.TestCase):
    def test_rules(self):
        for thing in [((1, 1),), ((0, 1), (1, 1)), ((1, 2), (1, 2)), ((1, 3), (0, 1), (2, 3)), ((1, 12),) * 12,
                      ((1, 6), (1, 3), (1, 2)), ((1, 10 ** 199), (10 ** 199 - 1, 10 ** 199)), one_rank(12, 5)]:
            self.assertIs(is_rule(thing), True)
        for n in range(1, 13):
            for rule in some_rules(n):
                self.assertIs(is_rule(rule), True)

    def test_how_many_shares(self):
        self.assertIs(is_rule(()), False)
        self.assertIs(is_rule(((1, 13),) * 13), False)
        self.assertIs(is_rule(one_rank(13, 0)), False)
        self.assertIs(is_rule(one_rank(12, 11) + ((0, 1),)), False)

    def test_together_one(self):
        for thing in [((0, 1),), ((1, 2),), ((2, 1),), ((1, 2), (1, 3)), ((1, 2), (2, 3)), ((1, 1), (1, 1)),
                      ((1, 11),) * 12, ((0, 1),) * 12, ((1, 10 ** 199), (10 ** 199 - 2, 10 ** 199 + 1))]:
            self.assertIs(is_rule(thing), False)

    def test_none_is_below_nought(self):
        for thing in [((-1, 2), (3, 2)), ((3, 2), (-1, 2)), ((2, 1), (-1, 1)), ((-1, 1), (1, 1), (1, 1)),
                      ((1, 2), (1, 2), (-1, 3), (1, 3)), ((-1, 1),)]:
            self.assertIs(is_rule(thing), False)

    def test_shares_are_in_lowest_terms(self):
        for thing in [((2, 2),), ((2, 4), (1, 2)), ((1, 2), (2, 4)), ((0, 2), (1, 1)), ((-1, -1),), ((1, 1), (0, -1)),
                      ((1, 1), (0, 0)), ((3, 6), (3, 6))]:
            self.assertIs(is_rule(thing), False)

    def test_truths_are_no_whole_numbers(self):
        for thing in [((True, 1),), ((1, True),), ((True, True),), ((False, 1), (1, 1)), ((1, 1), (0, True)), (True,),
                      ((True, 2), (1, 2)), ((1, 2), (True, 2))]:
            self.assertIs(is_rule(thing), False)

    def test_other_kinds(self):
        for thing in [[(1, 2), (1, 2)], ([1, 2], [1, 2]), ((1, 2), [1, 2]), (1, 1), (1,), 1, ((1, 1), 0),
                      ((1, 1), None), ((1, 1), ()), ((1, 1, 1),), ((1,),), {(1, 1): True}, {0: (1, 1)}, "1", ("1",),
                      (((1, 1),),),
                      ((1, 2), ((1, 2),)), (("1", "1"),), ((1, 1), "")]:
            self.assertIs(is_rule(thing), False)

    def test_anything(self):
        for thing in anything():
            shown = repr(thing)
            self.assertIs(is_rule(thing), False, shown[:60])
            self.assertEqual(repr(thing), shown)


class Drawn(unittest.TestCase):
    def test_by_hand(self):
        self.assertEqual(drawn(1, 1), ((1, 1),))
        self.assertEqual(drawn(1, 4), ((1, 1),))
        self.assertEqual(drawn(3, 1), ((1, 3), (1, 3), (1, 3)))
        self.assertEqual(drawn(2, 2), ((1, 4), (3, 4)))
        self.assertEqual(drawn(3, 2), ((1, 9), (1, 3), (5, 9)))
        self.assertEqual(drawn(2, 4), ((1, 16), (15, 16)))

    def test_all_rows_of_draws(self):
        for n in range(1, 13):
            for many in range(1, 5):
                told_rule = drawn(n, many)
                self.assertEqual(told_rule, by_draws(n, itertools.product(range(n), repeat=many)))
                self.assertTrue(is_rule(told_rule))
                assert_plain(self, told_rule)

    def test_up_to_a_rank(self):
        for n in range(1, 13):
            for many in range(1, 5):
                for r in range(n):
                    ahead = sum(Fraction(*share) for share in drawn(n, many)[:r + 1])
                    self.assertEqual(ahead, Fraction(r + 1, n) ** many)


class UnlikeBoxes(unittest.TestCase):
    def test_by_hand(self):
        self.assertEqual(unlike(1, 1), ((1, 1),))
        self.assertEqual(unlike(4, 2), ((0, 1), (1, 6), (1, 3), (1, 2)))
        self.assertEqual(unlike(3, 3), ((0, 1), (0, 1), (1, 1)))
        self.assertEqual(unlike(12, 1), ((1, 12),) * 12)

    def test_all_sets(self):
        for n in range(1, 13):
            for many in range(1, n + 1):
                told_rule = unlike(n, many)
                self.assertEqual(told_rule, by_draws(n, itertools.combinations(range(n), many)))
                self.assertTrue(is_rule(told_rule))
                assert_plain(self, told_rule)


class Mixed(unittest.TestCase):
    def test_by_hand(self):
        self.assertEqual(mixed((1, 3), drawn(2, 1), drawn(2, 2)), ((1, 3), (2, 3)))
        self.assertEqual(mixed((1, 1), ((1, 1),), ((1, 1),)), ((1, 1),))

    def test_nought_and_one(self):
        for n in (1, 2, 5, 12):
            for one in some_rules(n):
                for other in some_rules(n):
                    self.assertEqual(mixed((1, 1), one, other), one)
                    self.assertEqual(mixed((0, 1), one, other), other)

    def test_between(self):
        for n in (1, 2, 4, 12):
            for share in ((1, 2), (1, 7), (5, 6), (1, 10 ** 29), (999, 1000)):
                for one in some_rules(n):
                    for other in some_rules(n):
                        s = Fraction(*share)
                        wanted = tell(s * Fraction(*a) + (1 - s) * Fraction(*b) for a, b in zip(one, other))
                        self.assertEqual(mixed(share, one, other), wanted)
                        self.assertTrue(is_rule(wanted))
                        assert_plain(self, mixed(share, one, other))

    def test_not_as_many_boxes(self):
        for n in range(1, 13):
            for other in range(1, 13):
                if n != other:
                    for share in ((0, 1), (1, 1), (1, 2)):
                        assert_refused(self, Unlike, mixed, share, drawn(n, 2), drawn(other, 2))

    def test_a_mixture_lies_between(self):
        for n in range(1, 13):
            more, fewer = drawn(n, 3), drawn(n, 2)
            for share in ((0, 1), (1, 5), (4, 5), (1, 1)):
                self.assertIsNone(fuller_at(more, mixed(share, more, fewer)))
                self.assertIsNone(fuller_at(mixed(share, more, fewer), fewer))

    def test_told_rules_are_handed_in_again(self):
        rule = mixed((7, 999), drawn(12, 4), unlike(12, 5))
        self.assertGreater(max(bottom for top, bottom in rule), 1000)
        for turn in range(20):
            rule = mixed((997, 1000), rule, mixed((1, 3), unlike(12, 4), rule))
            self.assertTrue(is_rule(rule))
        self.assertGreater(max(bottom for top, bottom in rule), 10 ** 60)

    def test_two_thousand_figures(self):
        chance = random.Random(8)
        for n in (2, 12):
            one, other = long_rule(n, 1900), long_rule(n, 1800)
            share = Fraction(chance.randrange(10 ** 1900), 10 ** 1900 + 7)
            wanted = tell(share * Fraction(*a) + (1 - share) * Fraction(*b) for a, b in zip(one, other))
            self.assertEqual(mixed(told(share), one, other), wanted)


if __name__ == "__main__":
    unittest.main()
