import random
import unittest
from fractions import Fraction

from emptierbox.beside import fuller_at
from emptierbox.errors import NoBall, TooMany, Unlike
from emptierbox.held import held
from emptierbox.heldcheck import lets_joint
from emptierbox.loads import all_loads
from emptierbox.rules import drawn, mixed, unlike
from emptierbox.solve import solved
from emptierbox.spreads import alone, is_spread, leave, put
from emptierbox.steady import stays, steady, turn
from tests.test_spreads import slow_leave, slow_put, wide_spreads
from tests.things import anything, assert_plain, assert_refused, chance_rule, chance_spread, long_rule, one_rank
from tests.things import some_rules, told

KINDS = [(n, balls) for n in range(1, 7) for balls in range(1, 13) if len(all_loads(n, balls)) <= 12]


def solve_slowly(rows):
    """The solution of equations over fractions, each row with its right side last."""
    rows = [[Fraction(number) for number in row] for row in rows]
    for at in range(len(rows)):
        chosen = next(k for k in range(at, len(rows)) if rows[k][at] != 0)
        rows[at], rows[chosen] = rows[chosen], rows[at]
        rows[at] = [number / rows[at][at] for number in rows[at]]
        for k in range(len(rows)):
            if k != at:
                much = rows[k][at]
                rows[k] = [number - much * other for number, other in zip(rows[k], rows[at])]
    return [row[-1] for row in rows]


def slow_steady(rule, balls):
    loads = all_loads(len(rule), balls)
    later = [dict(slow_put(rule, slow_leave(alone(load)))) for load in loads]
    rows = [[Fraction(*spread.get(load, (0, 1))) - (load == loads[at]) for at, spread in enumerate(later)] + [0]
            for load in loads]
    rows[0] = [1] * (len(loads) + 1)
    return [(load, told(share)) for load, share in zip(loads, solve_slowly(rows)) if share != 0]


class Turn(unittest.TestCase):
    def test_by_hand(self):
        self.assertEqual(turn(drawn(2, 2), alone((1, 0))), alone((1, 0)))
        self.assertEqual(turn(((1, 2), (1, 2)), alone((2, 0))), [((1, 1), (1, 2)), ((2, 0), (1, 2))])
        self.assertEqual(turn(((1, 2), (1, 2)), alone((2, 1))), [((2, 1), (5, 6)), ((3, 0), (1, 6))])
        self.assertEqual(turn(((1, 1),), alone((7,))), alone((7,)))

    def test_one_leaves_then_one_comes(self):
        chance = random.Random(33)
        for n, balls in ((1, 1), (1, 6), (2, 1), (2, 9), (3, 7), (4, 6), (5, 5), (6, 8)):
            for rule in some_rules(n):
                loads = all_loads(n, balls)
                spread = chance_spread(chance, chance.sample(loads, chance.randrange(1, len(loads) + 1)))
                shown = repr(spread)
                answer = turn(rule, spread)
                self.assertEqual(answer, slow_put(rule, slow_leave(spread)))
                self.assertEqual(answer, put(rule, leave(spread)))
                self.assertTrue(is_spread(answer))
                assert_plain(self, answer)
                self.assertEqual(repr(spread), shown)

    def test_never_too_many(self):
        for spread in wide_spreads():
            for rule in some_rules(len(spread[0][0]), 1):
                self.assertEqual(turn(rule, spread), slow_put(rule, slow_leave(spread)))
        spread = chance_spread(random.Random(34), all_loads(6, 14))
        self.assertGreater(len(spread), 60)
        self.assertEqual(len(turn(drawn(6, 1), spread)), len(spread))

    def test_more_loads_behind_it(self):
        loads = random.Random(35).sample(all_loads(6, 14), 40)
        spread = chance_spread(random.Random(35), loads)
        self.assertGreater(len(turn(drawn(6, 1), spread)), 60)
        self.assertEqual(turn(drawn(6, 1), spread), slow_put(drawn(6, 1), slow_leave(spread)))

    def test_no_ball_then_unlike(self):
        for n in range(1, 13):
            for boxes in range(1, 7):
                assert_refused(self, NoBall, turn, drawn(n, 2), alone((0,) * boxes))
                if n != boxes:
                    assert_refused(self, Unlike, turn, drawn(n, 2), alone((1,) * boxes))
        for spread in wide_spreads():
            assert_refused(self, Unlike, turn, drawn(12, 2), spread)

    def test_a_new_list_each_time(self):
        spread = alone((2, 0))
        for deed in (lambda: turn(drawn(2, 2), spread), lambda: steady(drawn(2, 2), 3)):
            first = deed()
            kept = list(first)
            first.clear()
            self.assertEqual(deed(), kept)
        self.assertEqual(spread, alone((2, 0)))

    def test_long_numbers(self):
        rule = long_rule(3, 1900)
        self.assertEqual(turn(rule, alone((3, 1, 0))), slow_put(rule, slow_leave(alone((3, 1, 0)))))


class Steady(unittest.TestCase):
    def test_by_hand(self):
        self.assertEqual(steady(((1, 1),), 1), alone((1,)))
        self.assertEqual(steady(((1, 1),), 12), alone((12,)))
        self.assertEqual(steady(((1, 2), (1, 2)), 2), [((1, 1), (1, 2)), ((2, 0), (1, 2))])
        self.assertEqual(steady(drawn(2, 2), 2), [((1, 1), (3, 4)), ((2, 0), (1, 4))])
        self.assertEqual(steady(drawn(2, 1), 3), [((2, 1), (3, 4)), ((3, 0), (1, 4))])

    def test_all_kinds(self):
        for n, balls in KINDS:
            for rule in some_rules(n, 3) + [drawn(n, 2), unlike(n, n)]:
                answer = steady(rule, balls)
                self.assertTrue(is_spread(answer))
                assert_plain(self, answer)
                self.assertEqual((len(answer[0][0]), sum(answer[0][0])), (n, balls))
                self.assertEqual(slow_put(rule, slow_leave(answer)), answer)
                self.assertIs(stays(rule, answer), True)

    def test_against_fractions(self):
        for n, balls in KINDS:
            for rule in some_rules(n, 1) + [drawn(n, 2)]:
                self.assertEqual(steady(rule, balls), slow_steady(rule, balls))

    def test_one_box_drawn_is_all_rows_alike(self):
        """With one box drawn what stays is what comes of so many balls, each into any box alike."""
        for n, balls in KINDS:
            spread = alone((0,) * n)
            for ball in range(balls):
                spread = slow_put(drawn(n, 1), spread)
            self.assertEqual(steady(drawn(n, 1), balls), spread)

    def test_rules_of_one_rank(self):
        for n, balls in KINDS:
            full = (balls,) + (0,) * (n - 1)
            self.assertEqual(steady(one_rank(n, 0), balls), alone(full))
            self.assertEqual(steady(one_rank(n, n - 1), balls)[0][0],
                             tuple((balls + n - 1 - rank) // n for rank in range(n)))

    def test_loads_without_a_share_are_left_out(self):
        self.assertEqual(steady(unlike(3, 3), 5), alone((2, 2, 1)))
        answer = steady(((0, 1), (1, 2), (1, 2)), 6)
        self.assertNotIn((6, 0, 0), [load for load, share in answer])
        self.assertGreater(len(answer), 1)

    def test_which_kinds_are_too_many(self):
        for n in range(1, 7):
            for balls in range(1, 13):
                if (n, balls) not in KINDS:
                    assert_refused(self, TooMany, steady, drawn(n, 2), balls)
        self.assertIn(12, [len(all_loads(n, balls)) for n, balls in KINDS])
        # Eight balls in three boxes have 10 loads, nine balls 12, ten balls 14.
        self.assertEqual(len(all_loads(3, 9)), 12)
        self.assertEqual(len(steady(drawn(3, 1), 9)), 12)
        assert_refused(self, TooMany, steady, drawn(3, 1), 10)
        assert_refused(self, TooMany, steady, one_rank(3, 2), 10)
        for n in range(7, 13):
            for balls in (1, 2, 12):
                assert_refused(self, TooMany, steady, drawn(n, 2), balls)

    def test_told_and_long_rules(self):
        rule = mixed((7, 999), drawn(3, 4), unlike(3, 2))
        self.assertGreater(max(bottom for top, bottom in rule), 1000)
        self.assertIs(stays(rule, steady(rule, 9)), True)
        rule = long_rule(3, 1900)
        self.assertIs(stays(rule, steady(rule, 4)), True)
        self.assertEqual(steady(rule, 4), slow_steady(rule, 4))

    def test_any_spread_comes_near(self):
        """Turn for turn any spread comes nearer to the one that stays."""
        rule = drawn(3, 2)
        wanted = dict(steady(rule, 5))
        spread = alone((5, 0, 0))
        for at in range(30):
            spread = turn(rule, spread)
        for load, share in spread:
            self.assertLess(abs(Fraction(*share) - Fraction(*wanted[load])), Fraction(1, 100))


class Stays(unittest.TestCase):
    def test_every_other_spread_is_none(self):
        chance = random.Random(36)
        for n, balls in KINDS:
            loads = all_loads(n, balls)
            for rule in some_rules(n, 2):
                good = steady(rule, balls)
                others = [chance_spread(chance, chance.sample(loads, chance.randrange(1, len(loads) + 1)))
                          for at in range(4)]
                for other in others + [alone(load) for load in loads] + [chance_spread(chance, loads)]:
                    self.assertIs(stays(rule, other), other == good)

    def test_nearly_it(self):
        tiny = Fraction(1, 10 ** 29)
        for n, balls in KINDS:
            good = steady(drawn(n, 2), balls)
            if len(good) > 1:
                shares = [Fraction(*share) for load, share in good]
                shares[0] += tiny
                shares[-1] -= tiny
                other = [(load, told(share)) for (load, old), share in zip(good, shares)]
                self.assertTrue(is_spread(other))
                self.assertIs(stays(drawn(n, 2), other), False)

    def test_other_rules(self):
        good = steady(drawn(3, 2), 5)
        self.assertIs(stays(drawn(3, 2), good), True)
        for rule in (drawn(3, 1), drawn(3, 3), unlike(3, 2), mixed((1, 10 ** 20), drawn(3, 1), drawn(3, 2))):
            self.assertIs(stays(rule, good), False)

    def test_other_boxes(self):
        good = steady(drawn(3, 2), 5)
        for n in (1, 2, 4, 5, 6, 7, 12):
            self.assertIs(stays(drawn(n, 2), good), False)
            self.assertIs(stays(one_rank(n, 0), alone((3, 0, 0))), False)
        self.assertIs(stays(one_rank(7, 0), alone((3, 0, 0, 0, 0, 0))), False)

    def test_no_balls(self):
        for n in range(1, 7):
            for rule in some_rules(n):
                self.assertIs(stays(rule, alone((0,) * n)), False)

    def test_more_balls_and_loads_than_are_told(self):
        self.assertIs(stays(one_rank(6, 0), alone((40, 0, 0, 0, 0, 0))), True)
        self.assertIs(stays(one_rank(6, 5), alone((5, 5, 5, 5, 5, 5))), True)
        spread = alone((0,) * 6)
        for ball in range(14):
            spread = slow_put(drawn(6, 1), spread)
        self.assertGreater(len(spread), 60)
        self.assertIs(stays(drawn(6, 1), spread), True)
        self.assertIs(stays(drawn(6, 2), spread), False)
        self.assertIs(stays(one_rank(2, 0), alone((10 ** 199, 0))), True)
        self.assertIs(stays(((1, 1),), alone((10 ** 199,))), True)

    def test_forged(self):
        rule = drawn(2, 2)
        good = steady(rule, 2)
        self.assertEqual(good, [((1, 1), (3, 4)), ((2, 0), (1, 4))])
        for thing in [tuple(good), [list(row) for row in good], good[::-1], good + [good[-1]], good[:1], good[1:],
                      dict(good), [((1, 1), (6, 8)), ((2, 0), (1, 4))], [((1, 1), (3, 4)), ((2, False), (1, 4))],
                      [((True, True), (3, 4)), ((2, 0), (1, 4))], [((1, 1), (3, 4)), ((2, 0), (True, 4))],
                      [((1, 1), (1, 4)), ((2, 0), (3, 4))], [((1, 1), (3, 8)), ((2, 0), (1, 8))],
                      [((1, 1), (3, 2)), ((2, 0), (1, 2))], str(good), [good], (good, good), None]:
            self.assertIs(stays(rule, thing), False)
        self.assertIs(stays(((1, 1),), [((1,), (True, True))]), False)
        self.assertIs(stays(((1, 1),), [((True,), (1, 1))]), False)
        self.assertIs(stays(((1, 1),), [((1,), (1, 1))]), True)

    def test_anything(self):
        for rule in (((1, 1),), drawn(2, 2), drawn(6, 2), drawn(12, 2)):
            for thing in [*anything(), []]:
                shown = repr(thing)
                self.assertIs(stays(rule, thing), False, shown[:60])
                self.assertEqual(repr(thing), shown)

    def test_many_long_numbers(self):
        chance = random.Random(37)
        shares = []
        for at in range(500):
            bottom = chance.randrange(10 ** 190, 10 ** 194)
            half = Fraction(chance.randrange(1, bottom), bottom)
            shares += [told(half / 500), told((1 - half) / 500)]
        thing = [((2000 + at, 2000 - at), share) for at, share in enumerate(shares)]
        self.assertTrue(is_spread(thing))
        self.assertIs(stays(drawn(2, 2), thing), False)


class WhatStays(unittest.TestCase):
    def test_behind_a_ball_leaving(self):
        for n, balls in KINDS:
            for rule in some_rules(n, 2):
                less = leave(steady(rule, balls))
                self.assertEqual(leave(put(rule, less)), less)

    def test_a_rule_that_is_no_fuller(self):
        chance = random.Random(38)
        found = 0
        for n, balls in KINDS:
            pairs = [(drawn(n, 2), drawn(n, 1)), (unlike(n, min(n, 2)), drawn(n, min(n, 2))),
                     (one_rank(n, n - 1), drawn(n, 3))]
            pairs += [(chance_rule(chance, n, 4), chance_rule(chance, n, 4)) for turn in range(6)]
            for one, other in pairs:
                if fuller_at(one, other) is None:
                    found += 1
                    first, second = steady(one, balls), steady(other, balls)
                    word, joint = held(first, second)
                    self.assertEqual(word, "joint")
                    self.assertIs(lets_joint(first, second, joint), True)
        self.assertGreater(found, 100)


class Solved(unittest.TestCase):
    def test_against_fractions(self):
        chance = random.Random(39)
        for many in range(1, 7):
            for turn_of in range(10):
                rows = [[chance.randrange(-3, 4) for at in range(many)] for row in range(many)]
                rights = [chance.randrange(-3, 4) for row in range(many)]
                try:
                    wanted = solve_slowly([row + [right] for row, right in zip(rows, rights)])
                except StopIteration:
                    continue
                shown = repr((rows, rights))
                tops, bottom = solved(rows, rights)
                self.assertEqual([Fraction(top, bottom) for top in tops], wanted)
                self.assertEqual(repr((rows, rights)), shown)

    def test_rows_that_must_be_exchanged(self):
        self.assertEqual(solved([[0, 2], [3, 0]], [4, 9]), ([3 * 6, 2 * 6], 6))


if __name__ == "__main__":
    unittest.main()
