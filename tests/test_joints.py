import random
import unittest
from fractions import Fraction

from emptierbox.beside import fuller_at
from emptierbox.errors import Fuller, NoBall, TooMany, Unlike
from emptierbox.joints import is_joint, leave_both, pair_alone, parts, put_both
from emptierbox.loads import all_loads
from emptierbox.order import first_fuller
from emptierbox.pairings import pairing
from emptierbox.rules import drawn, unlike
from emptierbox.spreads import after, alone, is_spread, leave, put
from tests.things import anything, assert_plain, assert_refused, chance_rule, long_rule, one_rank, told

GOOD = [((1, 1), (1, 1), (1, 3)), ((1, 1), (2, 0), (1, 6)), ((2, 0), (2, 0), (1, 2))]


def no_fuller(one, other):
    return all(sum(one[:k]) <= sum(other[:k]) for k in range(len(one) + 1))


def all_pairs(n, balls):
    """All pairs of loads with one no fuller than the other, rising."""
    return [(one, other) for one in all_loads(n, balls) for other in all_loads(n, balls) if no_fuller(one, other)]


def alike(pairs):
    """The joint spread of these pairs, all alike."""
    return [(one, other, (1, len(pairs))) for one, other in sorted(pairs)]


def chance_joint(chance, pairs):
    tops = [chance.randrange(1, 20) for pair in pairs]
    return [(one, other, told(Fraction(top, sum(tops)))) for (one, other), top in zip(sorted(pairs), tops)]


def some_joints():
    chance = random.Random(18)
    yield GOOD
    for n, balls in ((1, 1), (1, 7), (2, 1), (2, 7), (3, 6), (4, 5), (5, 5), (6, 6)):
        pairs = all_pairs(n, balls)
        yield chance_joint(chance, pairs)
        for turn in range(3):
            yield chance_joint(chance, chance.sample(pairs, chance.randrange(1, len(pairs) + 1)))


def some_pairings(n):
    chance = random.Random(n)
    found = [(unlike(n, n), drawn(n, 1)), (drawn(n, 2), drawn(n, 1)), (one_rank(n, 0), one_rank(n, 0)),
             (one_rank(n, n - 1), one_rank(n, 0))]
    while len(found) < 7:
        one, other = chance_rule(chance, n, 4), chance_rule(chance, n, 4)
        if fuller_at(one, other) is None:
            found.append((one, other))
    return found


def joint_from(shares):
    return [(one, other, told(share)) for (one, other), share in sorted(shares.items()) if share > 0]


def changed(load, rank, by):
    numbers = list(load)
    numbers[rank] += by
    return tuple(sorted(numbers, reverse=True))


def slow_put(paired, joint):
    shares = {}
    for one, other, share in joint:
        for i, row in enumerate(paired):
            for j, chance in enumerate(row):
                pair = (changed(one, i, 1), changed(other, j, 1))
                shares[pair] = shares.get(pair, 0) + Fraction(*share) * Fraction(*chance)
    return joint_from(shares)


def rank_of_ball(load, u):
    return next(rank for rank in range(len(load)) if sum(load[:rank + 1]) >= u)


def slow_leave(joint):
    shares = {}
    for one, other, share in joint:
        for u in range(1, sum(one) + 1):
            pair = (changed(one, rank_of_ball(one, u), -1), changed(other, rank_of_ball(other, u), -1))
            shares[pair] = shares.get(pair, 0) + Fraction(*share) / sum(one)
    return joint_from(shares)


def slow_parts(joint):
    found = ({}, {})
    for *pair, share in joint:
        for shares, load in zip(found, pair):
            shares[load] = shares.get(load, 0) + Fraction(*share)
    return tuple([(load, told(share)) for load, share in sorted(shares.items())] for shares in found)


class IsJoint(unittest.TestCase):
    def test_joints(self):
        for joint in some_joints():
            self.assertIs(is_joint(joint), True)
        self.assertIs(is_joint([((0,), (0,), (1, 1))]), True)
        self.assertIs(is_joint(alike(all_pairs(6, 12))), True)
        self.assertGreater(len(all_pairs(6, 12)), 300)

    def test_empty(self):
        self.assertIs(is_joint([]), False)
        self.assertIs(is_joint(()), False)

    def test_each_one_is_no_fuller(self):
        self.assertIs(is_joint([((2, 0), (1, 1), (1, 1))]), False)
        self.assertIs(is_joint([((1, 1), (2, 0), (1, 2)), ((2, 0), (1, 1), (1, 2))]), False)
        self.assertIs(is_joint([((3, 3, 0), (4, 1, 1), (1, 1))]), False)
        self.assertIs(is_joint([((4, 1, 1), (3, 3, 0), (1, 1))]), False)
        for one in all_loads(4, 7):
            for other in all_loads(4, 7):
                self.assertIs(is_joint([(one, other, (1, 1))]), no_fuller(one, other))

    def test_all_loads_are_alike_in_kind(self):
        for thing in [[((1,), (1, 0), (1, 1))], [((1, 0), (1, 1), (1, 1))], [((1, 1), (1, 0), (1, 1))],
                      [((1, 1), (1, 1), (1, 2)), ((2, 1), (2, 1), (1, 2))],
                      [((1,), (1,), (1, 2)), ((1, 0), (1, 0), (1, 2))],
                      [((0, 0), (0, 0), (1, 2)), ((0, 0, 0), (0, 0, 0), (1, 2))]]:
            self.assertIs(is_joint(thing), False)

    def test_rising_and_each_pair_once(self):
        rows = [((1, 1), (1, 1), (1, 3)), ((1, 1), (2, 0), (1, 3)), ((2, 0), (2, 0), (1, 3))]
        self.assertIs(is_joint(rows), True)
        for at in ((0, 2, 1), (1, 0, 2), (1, 2, 0), (2, 0, 1), (2, 1, 0), (0, 0, 1), (0, 1, 1), (1, 1, 1), (0, 1, 0)):
            self.assertIs(is_joint([rows[k] for k in at]), False)

    def test_shares_above_nought_together_one(self):
        for shares in [((1, 3), (1, 6), (1, 3)), ((1, 3), (1, 6), (2, 3)), ((0, 1), (1, 2), (1, 2)),
                       ((1, 2), (1, 2), (0, 1)), ((-1, 2), (1, 2), (1, 1)), ((1, 1), (1, 1), (-1, 1)),
                       ((2, 6), (1, 6), (1, 2)), ((1, 3), (1, 6), (2, 4)), ((1, 3), (1, 6), [1, 2]),
                       ((1, 3), (1, 6), None), ((1, 3), (True, 6), (1, 2)), ((1, 3), 1, (1, 2))]:
            self.assertIs(is_joint([(one, other, share) for (one, other, old), share in zip(GOOD, shares)]), False)
        self.assertIs(is_joint([((1,), (1,), (True, True))]), False)

    def test_loads_that_are_none(self):
        for load in [(), (1, 2), (-1,), (True,), (1, False), [1], (None,), ("1",), 1, None, (0,) * 7, ((1,),)]:
            self.assertIs(is_joint([(load, load, (1, 1))]), False)
            self.assertIs(is_joint([((1,), load, (1, 1))]), False)
            self.assertIs(is_joint([(load, (1,), (1, 1))]), False)

    def test_other_kinds(self):
        for thing in [tuple(GOOD), [list(row) for row in GOOD], [GOOD], GOOD + [None], GOOD + [()], str(GOOD),
                      [((1,), (1,))], [((1,), (1, 1))], [((1,), (1,), (1, 1), 0)], [(((1,), (1,)), (1, 1))],
                      {(one, other): share for one, other, share in GOOD}, [((1,), (1, 1), (1,))]]:
            self.assertIs(is_joint(thing), False)

    def test_anything(self):
        for thing in anything():
            shown = repr(thing)
            self.assertIs(is_joint(thing), False, shown[:60])
            self.assertEqual(repr(thing), shown)


class PairAlone(unittest.TestCase):
    def test_each_pair(self):
        for n, balls in ((1, 0), (1, 3), (2, 5), (3, 6), (6, 6)):
            for one in all_loads(n, balls):
                for other in all_loads(n, balls):
                    if no_fuller(one, other):
                        self.assertEqual(pair_alone(one, other), [(one, other, (1, 1))])
                        assert_plain(self, pair_alone(one, other))
                    else:
                        assert_refused(self, Fuller, pair_alone, one, other)

    def test_unlike_goes_ahead(self):
        for one, other in (((1,), (1, 0)), ((3, 0), (1, 1)), ((1, 1), (3, 0)), ((2, 0), (1, 1, 0)), ((0,), (1,)),
                           ((0, 0), (0,))):
            assert_refused(self, Unlike, pair_alone, one, other)

    def test_a_new_list_each_time(self):
        first = pair_alone((1, 1), (2, 0))
        first.clear()
        self.assertEqual(pair_alone((1, 1), (2, 0)), [((1, 1), (2, 0), (1, 1))])


class PutBoth(unittest.TestCase):
    def test_by_hand(self):
        paired = (((1, 4), (0, 1)), ((1, 4), (1, 2)))
        self.assertEqual(put_both(paired, pair_alone((1, 1), (2, 0))),
                         [((2, 1), (2, 1), (1, 2)), ((2, 1), (3, 0), (1, 2))])
        self.assertEqual(put_both((((1, 1),),), pair_alone((3,), (3,))), [((4,), (4,), (1, 1))])

    def test_one_by_one(self):
        for joint in some_joints():
            for one, other in some_pairings(len(joint[0][0])):
                paired = pairing(one, other)
                wanted = slow_put(paired, joint)
                if len(wanted) > 300:
                    assert_refused(self, TooMany, put_both, paired, joint)
                    continue
                answer = put_both(paired, joint)
                self.assertEqual(answer, wanted)
                self.assertTrue(is_joint(answer))
                assert_plain(self, answer)

    def test_its_parts_go_by_the_two_rules(self):
        for joint in some_joints():
            for one, other in some_pairings(len(joint[0][0])):
                if len(joint) < 60:
                    first, second = parts(joint)
                    self.assertEqual(parts(put_both(pairing(one, other), joint)), (put(one, first), put(other, second)))

    def test_other_pairings_that_are_let_by(self):
        thing = (((0, 1), (0, 1), (0, 1)), ((1, 4), (1, 4), (0, 1)), ((1, 4), (1, 4), (0, 1)))
        for joint in some_joints():
            if len(joint[0][0]) == 3:
                self.assertEqual(put_both(thing, joint), slow_put(thing, joint))
                self.assertTrue(is_joint(put_both(thing, joint)))

    def test_ball_for_ball(self):
        n = 4
        joint = pair_alone((0,) * n, (0,) * n)
        for balls in range(1, 9):
            joint = put_both(pairing(drawn(n, 2), drawn(n, 1)), joint)
            wanted = tuple(after(drawn(n, many), alone((0,) * n), balls) for many in (2, 1))
            self.assertEqual(parts(joint), wanted)
            self.assertTrue(is_joint(joint))

    def test_just_three_hundred_and_one_more(self):
        loads = [(46 + at, 46 - at) for at in range(25)]
        pairs = [(one, other) for one in loads for other in loads if no_fuller(one, other)]
        most = [pair for pair in pairs if loads[-1] not in pair]
        self.assertEqual((len(most), len(pairs)), (300, 325))
        both = pairing(one_rank(2, 0), one_rank(2, 0))
        self.assertEqual(len(put_both(both, alike(most))), 300)
        self.assertEqual(put_both(both, alike(most)), slow_put(both, alike(most)))
        assert_refused(self, TooMany, put_both, both, alike(most + [pairs[-1]]))
        assert_refused(self, TooMany, put_both, both, alike(pairs))
        # Both into the emptier box: the gaps 0 and 2 lead to the same gap, so there are fewer pairs.
        narrow = pairing(one_rank(2, 1), one_rank(2, 1))
        self.assertEqual(put_both(narrow, alike(pairs)), slow_put(narrow, alike(pairs)))

    def test_not_as_many_boxes(self):
        wide = alike(all_pairs(6, 12))
        for n in range(1, 13):
            paired = pairing(drawn(n, 2), drawn(n, 1))
            for joint in [pair_alone((1,) * boxes, (1,) * boxes) for boxes in range(1, 7)] + [wide]:
                if n != len(joint[0][0]):
                    assert_refused(self, Unlike, put_both, paired, joint)
        assert_refused(self, TooMany, put_both, pairing(drawn(6, 2), drawn(6, 1)), wide)

    def test_long_numbers(self):
        paired = pairing(long_rule(2, 1900), one_rank(2, 0))
        joint = put_both(paired, pair_alone((2, 1), (3, 0)))
        self.assertEqual(joint, slow_put(paired, pair_alone((2, 1), (3, 0))))
        self.assertEqual(put_both(paired, joint), slow_put(paired, joint))

    def test_a_new_list_each_time_and_nothing_changed(self):
        paired = pairing(drawn(2, 2), drawn(2, 1))
        joint = list(GOOD)
        for deed in (lambda: put_both(paired, joint), lambda: leave_both(joint), lambda: parts(joint)[0],
                     lambda: parts(joint)[1]):
            first = deed()
            kept = list(first)
            first.clear()
            self.assertEqual(deed(), kept)
            self.assertEqual(joint, GOOD)


class LeaveBoth(unittest.TestCase):
    def test_by_hand(self):
        self.assertEqual(leave_both(pair_alone((1, 1), (2, 0))), [((1, 0), (1, 0), (1, 1))])
        self.assertEqual(leave_both(pair_alone((2, 1), (3, 0))),
                         [((1, 1), (2, 0), (2, 3)), ((2, 0), (2, 0), (1, 3))])
        self.assertEqual(leave_both(pair_alone((2, 2, 2), (4, 1, 1))),
                         [((2, 2, 1), (3, 1, 1), (2, 3)), ((2, 2, 1), (4, 1, 0), (1, 3))])

    def test_ball_by_ball(self):
        for joint in some_joints():
            answer = leave_both(joint)
            self.assertEqual(answer, slow_leave(joint))
            self.assertTrue(is_joint(answer))
            assert_plain(self, answer)
            self.assertEqual(parts(answer), tuple(leave(part) for part in parts(joint)))

    def test_more_than_three_hundred_pairs(self):
        joint = alike(all_pairs(6, 12))
        self.assertEqual(leave_both(joint), slow_leave(joint))
        self.assertGreater(len(leave_both(joint)), 300)

    def test_no_ball(self):
        for n in range(1, 7):
            assert_refused(self, NoBall, leave_both, pair_alone((0,) * n, (0,) * n))


class Parts(unittest.TestCase):
    def test_by_hand(self):
        self.assertEqual(parts(GOOD), ([((1, 1), (1, 2)), ((2, 0), (1, 2))], [((1, 1), (1, 3)), ((2, 0), (2, 3))]))

    def test_one_by_one(self):
        for joint in some_joints():
            answer = parts(joint)
            self.assertIs(type(answer), tuple)
            self.assertEqual(answer, slow_parts(joint))
            self.assertTrue(all(is_spread(part) for part in answer))
            assert_plain(self, answer)

    def test_the_others_are_rising_too(self):
        joint = [((2, 2, 2), (4, 2, 0), (1, 4)), ((3, 2, 1), (3, 2, 1), (1, 4)), ((3, 2, 1), (4, 2, 0), (1, 2))]
        self.assertEqual(parts(joint)[1], [((3, 2, 1), (1, 4)), ((4, 2, 0), (3, 4))])


class WhatStaysNoFuller(unittest.TestCase):
    def test_any_pair_and_ranks(self):
        for n, balls in ((2, 5), (3, 7), (4, 7), (6, 6)):
            for one, other in all_pairs(n, balls):
                for j in range(n):
                    for i in range(j, n):
                        self.assertIsNone(first_fuller(changed(one, i, 1), changed(other, j, 1)))


if __name__ == "__main__":
    unittest.main()
