import itertools
import random
import unittest
from fractions import Fraction

from emptierbox.errors import TooMany, Unlike
from emptierbox.held import held
from emptierbox.heldcheck import lets_joint
from emptierbox.loads import is_load
from emptierbox.nets import is_even, is_net, ring, whole_net
from emptierbox.rules import drawn
from emptierbox.spreads import after, alone, is_spread
from emptierbox.stands import after_on, as_loads, load_of, put_on
from tests.things import assert_plain, assert_refused, chance_net, chance_spread, chance_stand, told

# Nets and stands with the number of balls behind which there are just so many stands.
JUST = [
    (500, 10, (5, ((0, 0), (4, 0), (4, 0), (3, 3), (4, 2), (1, 0)), "dice"), (2, 0, 0, 0, 0)),
    (500, 11, (6, ((5, 3), (3, 3), (4, 2), (1, 4), (2, 4), (5, 0)), "left"), (0, 0, 0, 0, 0, 0)),
    (501, 8, (6, ((4, 3), (3, 3), (4, 4), (3, 2), (0, 5), (2, 1)), "dice"), (0, 0, 0, 4, 0, 0)),
    (501, 9, (6, ((1, 4), (5, 1), (4, 0), (1, 0), (1, 2), (3, 2)), "left"), (0, 5, 0, 0, 4, 0)),
]


def from_shares(shares):
    """A dict of stands and fractions as a spread of stands."""
    return [(stand, told(share)) for stand, share in sorted(shares.items()) if share > 0]


def ways(net, stand):
    """Both ways a drawn pair can go, alike in number: the boxes that get the ball, for each pair twice."""
    boxes, pairs, ties = net
    found = []
    for a, b in pairs:
        if stand[a] < stand[b]:
            found += [a, a]
        elif stand[b] < stand[a]:
            found += [b, b]
        elif ties == "left":
            found += [a, a]
        else:
            found += [a, b]
    return found


def slow_put_on(net, spread):
    shares = {}
    for stand, share in spread:
        found = ways(net, stand)
        for box in set(found):
            numbers = list(stand)
            numbers[box] += 1
            part = Fraction(*share) * Fraction(found.count(box), len(found))
            shares[tuple(numbers)] = shares.get(tuple(numbers), Fraction(0)) + part
    return from_shares(shares)


def by_rows_of_pairs(net, stand, many):
    """Behind all rows of drawn pairs, and in ties of both boxes, gone through one by one."""
    boxes, pairs, ties = net
    shares = {}
    for row in itertools.product(range(len(pairs)), (0, 1), repeat=many):
        numbers = list(stand)
        for at, coin in zip(row[::2], row[1::2]):
            a, b = pairs[at]
            if numbers[a] == numbers[b]:
                box = a if ties == "left" or coin == 0 else b
            else:
                box = a if numbers[a] < numbers[b] else b
            numbers[box] += 1
        shares[tuple(numbers)] = shares.get(tuple(numbers), Fraction(0)) + Fraction(1, (2 * len(pairs)) ** many)
    return from_shares(shares)


def slow_as_loads(spread):
    shares = {}
    for stand, share in spread:
        load = tuple(sorted(stand, reverse=True))
        shares[load] = shares.get(load, Fraction(0)) + Fraction(*share)
    return from_shares(shares)


def is_spread_of_stands(thing):
    stands = [stand for stand, share in thing]
    return (type(thing) is list and thing != [] and stands == sorted(set(stands))
            and len({(len(stand), sum(stand)) for stand in stands}) == 1
            and all(Fraction(*share) > 0 and told(Fraction(*share)) == share for stand, share in thing)
            and sum(Fraction(*share) for stand, share in thing) == 1)


def chance_stands(chance, n, balls, many):
    """A spread by chance of up to so many stands of so many balls."""
    stands = set()
    for at in range(many):
        numbers = [0] * n
        for ball in range(balls):
            numbers[chance.randrange(n)] += 1
        stands.add(tuple(numbers))
    return chance_spread(chance, sorted(stands))


def row_of_stands(many):
    """A spread of so many stands of two boxes."""
    return [((at, many - 1 - at), (1, many)) for at in range(many)]


class Base(unittest.TestCase):
    def told_well(self, spread):
        self.assertTrue(is_spread_of_stands(spread))
        assert_plain(self, spread)


class PutOn(Base):
    def test_by_hand(self):
        self.assertEqual(put_on((1, ((0, 0),), "dice"), [((4,), (1, 1))]), [((5,), (1, 1))])
        self.assertEqual(put_on((2, ((0, 1),), "left"), [((1, 1), (1, 1))]), [((2, 1), (1, 1))])
        self.assertEqual(put_on((2, ((1, 0),), "left"), [((1, 1), (1, 1))]), [((1, 2), (1, 1))])
        self.assertEqual(put_on((2, ((0, 1),), "dice"), [((1, 1), (1, 1))]), [((1, 2), (1, 2)), ((2, 1), (1, 2))])
        self.assertEqual(put_on((2, ((0, 1),), "dice"), [((2, 1), (1, 1))]), [((2, 2), (1, 1))])
        self.assertEqual(put_on((2, ((0, 1),), "left"), [((1, 2), (1, 4)), ((2, 1), (3, 4))]), [((2, 2), (1, 1))])
        self.assertEqual(put_on((3, ((0, 1), (1, 2), (1, 2)), "left"), [((0, 0, 0), (1, 1))]),
                         [((0, 1, 0), (2, 3)), ((1, 0, 0), (1, 3))])
        self.assertEqual(put_on((3, ((0, 1), (1, 2), (1, 2)), "dice"), [((0, 0, 0), (1, 1))]),
                         [((0, 0, 1), (1, 3)), ((0, 1, 0), (1, 2)), ((1, 0, 0), (1, 6))])

    def test_a_pair_that_is_there_twice(self):
        for ties in ("left", "dice"):
            self.assertEqual(put_on((2, ((0, 0), (1, 1), (1, 1)), ties), [((0, 0), (1, 1))]),
                             [((0, 1), (2, 3)), ((1, 0), (1, 3))])
            self.assertEqual(put_on((2, ((0, 0), (1, 1)) + ((1, 1),) * 38, ties), [((0, 0), (1, 1))]),
                             [((0, 1), (39, 40)), ((1, 0), (1, 40))])

    def test_the_same_box_twice_in_a_pair(self):
        for ties in ("left", "dice"):
            self.assertEqual(put_on((2, ((1, 1),), ties), [((0, 5), (1, 1))]), [((0, 6), (1, 1))])
            self.assertEqual(put_on((2, ((1, 1), (0, 1)), ties), [((0, 5), (1, 1))]),
                             [((0, 6), (1, 2)), ((1, 5), (1, 2))])

    def test_against_one_by_one(self):
        chance = random.Random(50)
        for at in range(120):
            net = chance_net(at)
            spread = chance_stands(chance, net[0], chance.randrange(9), chance.randrange(1, 20))
            shown = repr((net, spread))
            answer = put_on(net, spread)
            self.assertEqual(answer, slow_put_on(net, spread))
            self.told_well(answer)
            self.assertEqual(repr((net, spread)), shown)

    def test_not_as_many_boxes(self):
        for boxes in range(1, 7):
            for n in range(1, 7):
                for ties in ("left", "dice"):
                    if n != boxes:
                        assert_refused(self, Unlike, put_on, ring(boxes, ties), [((1,) * n, (1, 1))])
                        assert_refused(self, Unlike, put_on, (boxes, ((0, 0),), ties), [((1,) * n, (1, 1))])
        assert_refused(self, Unlike, put_on, ring(3, "left"), row_of_stands(501))
        assert_refused(self, Unlike, put_on, ring(1, "left"), row_of_stands(900))

    def test_just_five_hundred_and_one_more(self):
        one = (2, ((0, 0),), "left")
        self.assertEqual(put_on(one, row_of_stands(500)), [((at + 1, 499 - at), (1, 500)) for at in range(500)])
        assert_refused(self, TooMany, put_on, one, row_of_stands(501))
        both = (2, ((0, 0), (1, 1)), "dice")
        self.assertEqual(len(put_on(both, row_of_stands(499))), 500)
        self.assertEqual(put_on(both, row_of_stands(499)), slow_put_on(both, row_of_stands(499)))
        assert_refused(self, TooMany, put_on, both, row_of_stands(500))

    def test_a_wide_spread_that_gets_narrower(self):
        spread = [((at, 500 - at, at % 2, 1 - at % 2), (1, 501)) for at in range(501)]
        # The third and the fourth box are evened: but the first two are as many as ever.
        assert_refused(self, TooMany, put_on, (4, ((2, 3),), "left"), spread)
        spread = sorted([((at, 400 - at, 0, 1), (1, 802)) for at in range(401)]
                        + [((at, 400 - at, 1, 0), (1, 802)) for at in range(401)])
        answer = put_on((4, ((2, 3),), "dice"), spread)
        self.assertEqual(answer, [((at, 400 - at, 1, 1), (1, 401)) for at in range(401)])

    def test_shares_of_many_bottoms(self):
        """Five hundred shares of thirty figures, none with the bottom of another one."""
        chance = random.Random(51)
        shares = []
        for at in range(249):
            bottom = chance.randrange(10 ** 25, 10 ** 26)
            half = Fraction(chance.randrange(1, bottom), bottom)
            shares += [told(half / 249), told((1 - half) / 249)]
        spread = [((at, 497 - at), share) for at, share in enumerate(shares)]
        self.assertTrue(is_spread_of_stands(spread))
        net = (2, ((0, 0), (0, 1), (1, 1), (1, 1)), "dice")
        answer = put_on(net, spread)
        self.assertEqual(answer, slow_put_on(net, spread))
        self.assertEqual(as_loads(answer), slow_as_loads(answer))

    def test_long_numbers(self):
        share = told(Fraction(10 ** 1990 + 7, 3 * 10 ** 1991 + 1))
        rest = told(1 - Fraction(*share))
        spread = [((0, 2), share), ((1, 1), rest)]
        for net in ((2, ((0, 1),), "dice"), (2, ((0, 0), (1, 1), (0, 1)), "left")):
            self.assertEqual(put_on(net, spread), slow_put_on(net, spread))

    def test_a_new_list_each_time(self):
        spread = [((1, 1), (1, 1))]
        first = put_on(ring(2, "dice"), spread)
        kept = list(first)
        first.clear()
        self.assertEqual(put_on(ring(2, "dice"), spread), kept)
        self.assertEqual(spread, [((1, 1), (1, 1))])
        spread[:] = [((5, 0), (1, 1))]
        self.assertEqual(kept, [((1, 2), (1, 2)), ((2, 1), (1, 2))])
        self.assertEqual(put_on(ring(2, "dice"), spread), [((5, 1), (1, 1))])


class AfterOn(Base):
    def test_all_rows_of_drawn_pairs(self):
        chance = random.Random(52)
        for most, many in ((8, 1), (7, 2), (5, 3), (3, 4), (2, 5), (1, 7)):
            for at in range(12):
                net = chance_net(chance.randrange(10 ** 6), most=most)
                stand = chance_stand(chance, net[0], chance.choice((0, 1, 3)))
                self.assertEqual(after_on(net, stand, many), by_rows_of_pairs(net, stand, many))

    def test_rings_and_whole_nets(self):
        for ties in ("left", "dice"):
            for n in range(1, 5):
                self.assertEqual(after_on(ring(n, ties), (0,) * n, 3), by_rows_of_pairs(ring(n, ties), (0,) * n, 3))
            for n in range(1, 4):
                self.assertEqual(after_on(whole_net(n, ties), (0,) * n, 2),
                                 by_rows_of_pairs(whole_net(n, ties), (0,) * n, 2))

    def test_by_hand(self):
        self.assertEqual(after_on((2, ((0, 1),), "dice"), (0, 0), 3), [((1, 2), (1, 2)), ((2, 1), (1, 2))])
        self.assertEqual(after_on((2, ((0, 1),), "left"), (0, 0), 3), [((2, 1), (1, 1))])
        self.assertEqual(after_on((2, ((1, 0),), "left"), (0, 0), 3), [((1, 2), (1, 1))])
        self.assertEqual(after_on(ring(1, "dice"), (7,), 60), [((67,), (1, 1))])
        self.assertEqual(after_on((3, ((0, 1), (1, 2)), "left"), (0, 0, 0), 2),
                         [((0, 1, 1), (1, 4)), ((1, 1, 0), (3, 4))])

    def test_ball_by_ball(self):
        chance = random.Random(53)
        for at in range(30):
            net = chance_net(at + 1000)
            stand = chance_stand(chance, net[0])
            wanted = [(stand, (1, 1))]
            for many in range(61):
                if many in (0, 1, 2, 3, 5, 8, 30, 60):
                    self.assertEqual(after_on(net, stand, many), wanted)
                    self.told_well(after_on(net, stand, many))
                wanted = slow_put_on(net, wanted)
                if len(wanted) > 500:
                    for more in (1, 2, 5):
                        assert_refused(self, TooMany, after_on, net, stand, many + more)
                    assert_refused(self, TooMany, after_on, net, stand, 60)
                    break

    def test_put_on_is_one_ball(self):
        chance = random.Random(54)
        for at in range(30):
            net = chance_net(at + 2000, boxes=3)
            stand = chance_stand(chance, 3)
            spread = after_on(net, stand, 0)
            for many in range(1, 12):
                spread = put_on(net, spread)
                self.assertEqual(after_on(net, stand, many), spread)

    def test_sixty_balls_in_two_boxes(self):
        for net in ((2, ((0, 0), (1, 1)), "left"), (2, ((0, 1), (1, 1), (0, 1)), "dice"), ring(2, "dice")):
            wanted = [((3, 1), (1, 1))]
            for many in range(61):
                self.assertEqual(after_on(net, (3, 1), many), wanted)
                wanted = slow_put_on(net, wanted)

    def test_of_none_the_stand_alone(self):
        for stand in [(0,), (3, 5), (0, 0, 0), (1, 2, 3, 4, 5, 6), (40,), (0, 40)]:
            for ties in ("left", "dice"):
                answer = after_on(ring(len(stand), ties), stand, 0)
                self.assertEqual(answer, [(stand, (1, 1))])
                answer.append(None)
                self.assertEqual(after_on(ring(len(stand), ties), stand, 0), [(stand, (1, 1))])

    def test_not_as_many_boxes(self):
        for many in (0, 1, 7, 60):
            for boxes in range(1, 7):
                for n in range(1, 7):
                    if n != boxes:
                        assert_refused(self, Unlike, after_on, ring(boxes, "dice"), (0,) * n, many)
                        assert_refused(self, Unlike, after_on, whole_net(boxes, "left"), (0,) * n, many)

    def test_just_five_hundred_and_one_more(self):
        for stands, many, net, stand in JUST:
            self.assertTrue(is_net(net))
            wanted = [(stand, (1, 1))]
            for ball in range(many):
                self.assertLessEqual(len(wanted), 500)
                wanted = slow_put_on(net, wanted)
            self.assertEqual(len(wanted), stands)
            if stands == 500:
                self.assertEqual(after_on(net, stand, many), wanted)
                self.told_well(wanted)
            else:
                assert_refused(self, TooMany, after_on, net, stand, many)

    def test_too_many(self):
        for n, many in ((3, 31), (4, 13), (5, 9), (6, 7)):
            net = (n, tuple((box, box) for box in range(n)), "left")
            self.assertLessEqual(len(after_on(net, (0,) * n, many - 1)), 500)
            for more in (many, many + 1, 60):
                assert_refused(self, TooMany, after_on, net, (0,) * n, more)
                assert_refused(self, Unlike, after_on, net, (0,) * (n - 1), more)

    def test_nothing_is_changed(self):
        net, stand = ring(4, "dice"), (1, 0, 2, 0)
        shown = repr((net, stand))
        first = after_on(net, stand, 4)
        kept = list(first)
        first.clear()
        self.assertEqual(after_on(net, stand, 4), kept)
        self.assertEqual(repr((net, stand)), shown)


class Loads(Base):
    def test_load_of(self):
        for stand, load in [((0,), (0,)), ((1, 2), (2, 1)), ((0, 3, 1), (3, 1, 0)), ((2, 2, 2), (2, 2, 2)),
                            ((0, 0, 0, 0, 0, 9), (9, 0, 0, 0, 0, 0)), ((1, 3, 2, 3, 1, 0), (3, 3, 2, 1, 1, 0))]:
            self.assertEqual(load_of(stand), load)
            self.assertTrue(is_load(load_of(stand)))
            assert_plain(self, load_of(stand))

    def test_as_loads_by_hand(self):
        self.assertEqual(as_loads([((0, 1), (1, 3)), ((1, 0), (2, 3))]), [((1, 0), (1, 1))])
        self.assertEqual(as_loads([((0, 3), (1, 6)), ((1, 2), (1, 3)), ((2, 1), (1, 4)), ((3, 0), (1, 4))]),
                         [((2, 1), (7, 12)), ((3, 0), (5, 12))])
        self.assertEqual(as_loads([((2, 5, 1), (1, 1))]), [((5, 2, 1), (1, 1))])

    def test_as_loads_by_chance(self):
        chance = random.Random(55)
        for n in range(1, 7):
            for at in range(12):
                spread = chance_stands(chance, n, chance.randrange(8), chance.randrange(1, 60))
                shown = repr(spread)
                answer = as_loads(spread)
                self.assertEqual(answer, slow_as_loads(spread))
                self.assertTrue(is_spread(answer))
                assert_plain(self, answer)
                answer.clear()
                self.assertEqual(as_loads(spread), slow_as_loads(spread))
                self.assertEqual(repr(spread), shown)

    def test_wide_spreads(self):
        for stands, many, net, stand in JUST[:2]:
            spread = after_on(net, stand, many)
            self.assertEqual(as_loads(spread), slow_as_loads(spread))
        spread = row_of_stands(700)
        self.assertEqual(as_loads(spread), slow_as_loads(spread))


def even_nets():
    """Even nets: rings, whole nets, others by chance."""
    for ties in ("left", "dice"):
        for n in range(1, 7):
            yield ring(n, ties)
            yield whole_net(n, ties)
    chance = random.Random(56)
    found = 0
    while found < 40:
        n = chance.randrange(2, 7)
        ends = list(range(n)) * (2 * chance.randrange(1, 4))
        chance.shuffle(ends)
        net = (n, tuple(zip(ends[::2], ends[1::2])), chance.choice(("left", "dice")))
        assert is_net(net) and is_even(net)
        found += 1
        yield net


class EvenNets(Base):
    def test_beside_one_box_drawn(self):
        chance = random.Random(57)
        met = 0
        for net in even_nets():
            for stand in [(0,) * net[0], chance_stand(chance, net[0], 2), chance_stand(chance, net[0])]:
                for many in (0, 1, 2, 3, 4, 5, 6):
                    first = as_loads(after_on(net, stand, many))
                    second = after(drawn(net[0], 1), alone(load_of(stand)), many)
                    if len(second) > 24 or len(first) > 24:
                        break
                    word, joint = held(first, second)
                    self.assertEqual(word, "joint")
                    self.assertIs(lets_joint(first, second, joint), True)
                    met += 1
        self.assertGreater(met, 700)

    def test_a_net_that_is_not_even(self):
        """What is said of even nets is not so of each net."""
        first = as_loads(after_on((2, ((0, 0),), "left"), (0, 0), 2))
        self.assertEqual(held(first, after(drawn(2, 1), alone((0, 0)), 2))[0], "set")

    def test_all_pairs_are_two_boxes_drawn(self):
        chance = random.Random(58)
        for ties in ("left", "dice"):
            for n in range(1, 7):
                for stand in [(0,) * n, chance_stand(chance, n), chance_stand(chance, n, 1), chance_stand(chance, n)]:
                    for many in (0, 1, 2, 3, 4):
                        self.assertEqual(as_loads(after_on(whole_net(n, ties), stand, many)),
                                         after(drawn(n, 2), alone(load_of(stand)), many))
            self.assertEqual(as_loads(after_on(whole_net(3, ties), (0, 2, 1), 20)),
                             after(drawn(3, 2), alone((2, 1, 0)), 20))


if __name__ == "__main__":
    unittest.main()
