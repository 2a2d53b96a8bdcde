"""What the program promises as a whole, each sentence of it with drawn inputs."""

import itertools
import random
import unittest
from fractions import Fraction

from emptierbox.beside import fuller_at, parting
from emptierbox.draws import by_draws
from emptierbox.exchanged import exchanged_net, exchanged_stand
from emptierbox.held import held
from emptierbox.heldcheck import lets_joint, lets_set
from emptierbox.joints import is_joint, leave_both, pair_alone, parts, put_both
from emptierbox.layers import bound, is_layers, least_layers
from emptierbox.loads import all_loads, put_at, taken_from
from emptierbox.means import first_mean, fullest_share, many_share, mean
from emptierbox.nets import is_even
from emptierbox.order import first_fuller, lets_moves, moves
from emptierbox.pairings import lets_pairing, pairing
from emptierbox.reader import read_joint, read_load, read_net, read_rule, read_share, read_spread
from emptierbox.rules import drawn, mixed, unlike
from emptierbox.shares import is_less, total
from emptierbox.spreads import after, alone, is_spread, leave, put
from emptierbox.stands import after_on, as_loads, load_of
from emptierbox.steady import stays, steady, turn
from emptierbox.texts import show_joint, show_load, show_net, show_rule, show_share, show_spread
from tests.test_exchanged import chance_order, exchanged_spread
from tests.test_joints import all_pairs, chance_joint, no_fuller
from tests.test_stands import chance_stands, even_nets
from tests.things import chance_net, chance_rule, chance_spread, chance_stand, told

KINDS = ((1, 4), (2, 5), (2, 6), (3, 5), (3, 6), (4, 5), (5, 4), (6, 4))


def chance_pairing(chance, n):
    """A pairing by chance, and the two rules of which it is one."""
    tops = [[chance.choice((0, 0, 1, 5)) if i >= j else 0 for j in range(n)] for i in range(n)]
    tops[n - 1][0] += 1
    whole = sum(map(sum, tops))
    shares = tuple(tuple(told(Fraction(top, whole)) for top in row) for row in tops)
    one = tuple(told(Fraction(sum(row), whole)) for row in tops)
    other = tuple(told(Fraction(sum(row[j] for row in tops), whole)) for j in range(n))
    return shares, one, other


def rows_of_draws(sets, stand, balls):
    """The stands behind all rows of draws, one for each row."""
    return [by_draws(stand, list(row))[0] for row in itertools.product(sets, repeat=balls)]


class SharesOfLoads(unittest.TestCase):
    def check(self, spread, stands):
        """A spread is that of all these stands, each alike, and its means are theirs."""
        loads = [load_of(stand) for stand in stands]
        wanted = [(load, told(Fraction(loads.count(load), len(loads)))) for load in sorted(set(loads))]
        self.assertEqual(spread, wanted)
        self.assertEqual(total([share for load, share in spread]), (1, 1))
        self.assertEqual(mean(spread, "fullest"), told(Fraction(sum(load[0] for load in loads), len(loads))))
        self.assertEqual(mean(spread, "emptiest"), told(Fraction(sum(load[-1] for load in loads), len(loads))))
        self.assertEqual(mean(spread, "gap"), told(Fraction(sum(load[0] - load[-1] for load in loads), len(loads))))
        self.assertEqual(mean(spread, "squares"),
                         told(Fraction(sum(number ** 2 for load in loads for number in load), len(loads))))
        for k in range(len(loads[0]) + 1):
            self.assertEqual(first_mean(spread, k), told(Fraction(sum(sum(load[:k]) for load in loads), len(loads))))
        for m in range(4):
            self.assertEqual(fullest_share(spread, m), told(Fraction(sum(load[0] >= m for load in loads), len(loads))))
            for b in range(3):
                many = sum(sum(number >= m for number in load) >= b for load in loads)
                self.assertEqual(many_share(spread, m, b), told(Fraction(many, len(loads))))

    def test_drawn_and_unlike_boxes(self):
        chance = random.Random(90)
        for turn_of in range(40):
            n, many = chance.randrange(1, 5), chance.randrange(1, 4)
            balls = chance.randrange(4 if n ** many < 20 else 3)
            stand = chance_stand(chance, n, 2)
            sets = list(itertools.product(range(n), repeat=many))
            self.check(after(drawn(n, many), alone(load_of(stand)), balls), rows_of_draws(sets, stand, balls))
            sets = list(itertools.combinations(range(n), min(many, n)))
            self.check(after(unlike(n, min(many, n)), alone(load_of(stand)), balls), rows_of_draws(sets, stand, balls))

    def test_nets(self):
        chance = random.Random(91)
        for turn_of in range(40):
            boxes, pairs, ties = chance_net(chance.randrange(10 ** 6), most=4)
            stand, balls = chance_stand(chance, boxes, 2), chance.randrange(4)
            # By dice each pair is drawn in either order alike.
            sets = list(pairs) if ties == "left" else [pair for a, b in pairs for pair in ((a, b), (b, a))]
            self.check(as_loads(after_on((boxes, pairs, ties), stand, balls)), rows_of_draws(sets, stand, balls))


class RowsOfMoves(unittest.TestCase):
    def test_whatever_is_let_by(self):
        chance = random.Random(92)
        met = 0
        for turn_of in range(1500):
            n, balls = chance.choice(KINDS)
            one, other = chance.choice(all_loads(n, balls)), chance.choice(all_loads(n, balls))
            thing = [(chance.randrange(n), chance.randrange(n)) for at in range(chance.randrange(4))]
            if lets_moves(one, other, thing):
                met += 1
                self.assertTrue(no_fuller(one, other))
                self.assertIsNone(first_fuller(one, other))
        self.assertGreater(met, 60)

    def test_where_one_is_moves_are_told(self):
        chance = random.Random(93)
        for turn_of in range(600):
            n, balls = chance.choice(KINDS)
            one, other = chance.choice(all_loads(n, balls)), chance.choice(all_loads(n, balls))
            row = moves(one, other)
            self.assertEqual(row is not None, no_fuller(one, other))
            if row is not None:
                self.assertIs(lets_moves(one, other, row), True)


class TwoRules(unittest.TestCase):
    def test_a_pairing_or_what_parts_them(self):
        chance = random.Random(94)
        words = []
        for turn_of in range(200):
            n = chance.randrange(1, 7)
            one, other = chance_rule(chance, n, 4), chance_rule(chance, n, 4)
            paper, why = pairing(one, other), parting(one, other)
            self.assertEqual(paper is None, why is not None)
            self.assertEqual(paper is None, fuller_at(one, other) is not None)
            words.append(paper is None)
            if paper is None:
                load, k = why
                first, second = put(one, alone(load)), put(other, alone(load))
                self.assertTrue(is_less(first_mean(second, k), first_mean(first, k)))
            else:
                self.assertIs(lets_pairing(one, other, paper), True)
        self.assertGreater(words.count(True), 40)
        self.assertGreater(words.count(False), 40)

    def test_whatever_pairing_is_let_by(self):
        """By one common row of shares the loads stay no fuller, ball for ball, also where balls leave."""
        chance = random.Random(95)
        for turn_of in range(60):
            n, balls = chance.choice(KINDS)
            paper, one, other = chance_pairing(chance, n)
            self.assertIs(lets_pairing(one, other, paper), True)
            self.assertIsNone(fuller_at(one, other))
            first, second = chance.choice(all_pairs(n, balls))
            joint = pair_alone(first, second)
            spreads = alone(first), alone(second)
            for deed in chance.choices(("put", "put", "leave"), k=5):
                if deed == "put":
                    joint = put_both(paper, joint)
                    spreads = put(one, spreads[0]), put(other, spreads[1])
                else:
                    joint = leave_both(joint)
                    spreads = leave(spreads[0]), leave(spreads[1])
                self.assertIs(is_joint(joint), True)
                self.assertEqual(parts(joint), spreads)

    def test_each_pair_of_ranks(self):
        chance = random.Random(96)
        for turn_of in range(80):
            n, balls = chance.choice(KINDS)
            paper, one, other = chance_pairing(chance, n)
            first, second = chance.choice(all_pairs(n, balls))
            for i, j in itertools.product(range(n), repeat=2):
                if paper[i][j][0] > 0:
                    self.assertTrue(no_fuller(put_at(first, i), put_at(second, j)))


class TwoSpreads(unittest.TestCase):
    def test_one_of_both_never_both(self):
        chance = random.Random(97)
        words = []
        for turn_of in range(150):
            loads = all_loads(*chance.choice(KINDS))
            first, second = (chance_spread(chance, chance.sample(loads, chance.randrange(1, len(loads) + 1)))
                             for at in (0, 1))
            word, paper = held(first, second)
            words.append(word)
            self.assertIs((lets_joint if word == "joint" else lets_set)(first, second, paper), True)
            either = sorted({load for load, share in first + second})
            sets = [list(some) for many in range(len(either) + 1) for some in itertools.combinations(either, many)]
            self.assertEqual(any(lets_set(first, second, some) for some in sets), word == "set")
        self.assertEqual(set(words), {"joint", "set"})

    def test_whatever_joint_spread_is_let_by(self):
        chance = random.Random(98)
        for turn_of in range(120):
            n, balls = chance.choice(KINDS)
            pairs = all_pairs(n, balls)
            joint = chance_joint(chance, chance.sample(pairs, chance.randrange(1, min(len(pairs), 12) + 1)))
            first, second = parts(joint)
            self.assertIs(lets_joint(first, second, joint), True)
            self.assertEqual(held(first, second)[0], "joint")
            for word in ("fullest", "gap", "squares"):
                self.assertFalse(is_less(mean(second, word), mean(first, word)))
            self.assertFalse(is_less(mean(first, "emptiest"), mean(second, "emptiest")))
            for k in range(n + 1):
                self.assertFalse(is_less(first_mean(second, k), first_mean(first, k)))
            for m in range(-1, balls + 2):
                self.assertFalse(is_less(fullest_share(second, m), fullest_share(first, m)))


class KindsOfRules(unittest.TestCase):
    def test_more_boxes_are_never_fuller(self):
        for n in range(1, 13):
            for many in range(1, 4):
                self.assertIsNone(fuller_at(drawn(n, many + 1), drawn(n, many)))
            for many in range(1, n):
                self.assertIsNone(fuller_at(unlike(n, many + 1), unlike(n, many)))
            for many in range(1, min(n, 4) + 1):
                self.assertIsNone(fuller_at(unlike(n, many), drawn(n, many)))

    def test_a_mixture_lies_between(self):
        chance = random.Random(99)
        met = 0
        while met < 100:
            n = chance.randrange(1, 9)
            one, other = chance_rule(chance, n, 4), chance_rule(chance, n, 4)
            if fuller_at(one, other) is None:
                met += 1
                between = mixed(told(Fraction(chance.randrange(11), 10)), one, other)
                self.assertIsNone(fuller_at(one, between))
                self.assertIsNone(fuller_at(between, other))

    def test_so_are_their_loads(self):
        chance = random.Random(100)
        for turn_of in range(40):
            n = chance.randrange(1, 6)
            load, balls = load_of(chance_stand(chance, n, 2)), chance.randrange(5)
            many = chance.randrange(1, 4)
            part = told(Fraction(chance.randrange(6), 5))
            rules = [drawn(n, many + 1), mixed(part, drawn(n, many + 1), drawn(n, many)), drawn(n, many)]
            spreads = [after(rule, alone(load), balls) for rule in rules]
            if max(map(len, spreads)) <= 24:
                for first, second in zip(spreads, spreads[1:]):
                    self.assertEqual(held(first, second)[0], "joint")


class Layers(unittest.TestCase):
    def test_the_bound_is_not_passed(self):
        chance = random.Random(101)
        for turn_of in range(150):
            n, balls, m = chance.randrange(1, 6), chance.randrange(8), chance.randrange(1, 7)
            rule = chance_rule(chance, n, 6)
            layers = (n,) + tuple(sorted((chance.randrange(n + 1) for k in range(m)), reverse=True))
            self.assertIs(is_layers(rule, layers), True)
            spread = after(rule, alone((0,) * n), balls)
            passed = [share for load, share in spread
                      if any(sum(number >= k for number in load) > layers[k] for k in range(1, m + 1))]
            self.assertFalse(is_less(bound(rule, balls, layers), total(passed)))

    def test_the_least_bound(self):
        chance = random.Random(102)
        for turn_of in range(40):
            n, balls, m = chance.randrange(1, 5), chance.randrange(10), chance.randrange(1, 5)
            rule = chance_rule(chance, n, 6)
            least, layers = least_layers(rule, balls, m)
            self.assertIs(is_layers(rule, layers), True)
            self.assertEqual((len(layers), layers[-1]), (m + 1, 0))
            self.assertEqual(bound(rule, balls, layers), least)
            rest = [some for some in itertools.product(range(n + 1), repeat=m - 1) if list(some) == sorted(some)[::-1]]
            for some in rest:
                self.assertFalse(is_less(bound(rule, balls, (n,) + some + (0,)), least))
            self.assertFalse(is_less(least, fullest_share(after(rule, alone((0,) * n), balls), m)))


class WhatStays(unittest.TestCase):
    def test_just_one_spread(self):
        chance = random.Random(103)
        for turn_of in range(60):
            n, balls = chance.choice(KINDS)
            rule = chance_rule(chance, n, 6)
            good = steady(rule, balls)
            self.assertEqual(turn(rule, good), good)
            loads = all_loads(n, balls)
            for at in range(5):
                thing = chance_spread(chance, chance.sample(loads, chance.randrange(1, len(loads) + 1)))
                self.assertIs(stays(rule, thing), thing == good)
                self.assertEqual(turn(rule, thing) == thing, thing == good)

    def test_a_rule_that_is_no_fuller(self):
        chance = random.Random(104)
        met = 0
        while met < 40:
            n, balls = chance.choice(KINDS)
            one, other = chance_rule(chance, n, 4), chance_rule(chance, n, 4)
            if fuller_at(one, other) is None:
                met += 1
                self.assertEqual(held(steady(one, balls), steady(other, balls))[0], "joint")

    def test_a_ball_that_leaves(self):
        chance = random.Random(105)
        for turn_of in range(60):
            n, balls = chance.choice(KINDS)
            first, second = chance.choice(all_pairs(n, balls))
            joint = leave_both(pair_alone(first, second))
            self.assertEqual(parts(joint), (leave(alone(first)), leave(alone(second))))
            loads = [taken_from(first, rank) for rank in range(n) for ball in range(first[rank])]
            self.assertEqual(leave(alone(first)), [(load, told(Fraction(loads.count(load), balls)))
                                                   for load in sorted(set(loads))])


class Nets(unittest.TestCase):
    def test_even_nets_are_no_fuller(self):
        chance = random.Random(106)
        met = 0
        for net in even_nets():
            self.assertIs(is_even(net), True)
            stand, balls = chance_stand(chance, net[0], 3), chance.randrange(1, 5)
            first = as_loads(after_on(net, stand, balls))
            second = after(drawn(net[0], 1), alone(load_of(stand)), balls)
            if len(first) <= 24 and len(second) <= 24:
                met += 1
                self.assertEqual(held(first, second)[0], "joint")
        self.assertGreater(met, 30)

    def test_names_exchanged_all_is_exchanged(self):
        chance = random.Random(107)
        for turn_of in range(60):
            net = chance_net(chance.randrange(10 ** 6), most=8)
            stand, balls, order = chance_stand(chance, net[0]), chance.randrange(5), chance_order(chance, net[0])
            self.assertEqual(after_on(exchanged_net(net, order), exchanged_stand(stand, order), balls),
                             exchanged_spread(after_on(net, stand, balls), order))


class ReadBack(unittest.TestCase):
    def test_what_is_written_is_read_back(self):
        chance = random.Random(108)
        for turn_of in range(120):
            share = told(Fraction(chance.randrange(-10 ** 30, 10 ** 30), chance.randrange(1, 10 ** 30)))
            self.assertEqual(read_share(show_share(share)), share)
            n, balls = chance.choice(KINDS)
            load = chance.choice(all_loads(n, balls))
            self.assertEqual(read_load(show_load(load)), load)
            rule = chance_rule(chance, chance.randrange(1, 13))
            self.assertEqual(read_rule(show_rule(rule)), rule)
            spread = after(chance_rule(chance, n), alone(load), chance.randrange(5))
            self.assertIs(is_spread(spread), True)
            self.assertEqual(read_spread(show_spread(spread)), spread)
            joint = chance_joint(chance, chance.sample(all_pairs(n, balls), 1))
            self.assertEqual(read_joint(show_joint(joint)), joint)
            net = chance_net(chance.randrange(10 ** 6))
            self.assertEqual(read_net(show_net(net)), net)
            loads = as_loads(chance_stands(chance, n, balls, 20))
            self.assertEqual(read_spread(show_spread(loads)), loads)


if __name__ == "__main__":
    unittest.main()
