import itertools
import random
import unittest

from emptierbox.exchanged import exchanged_net, exchanged_stand
from emptierbox.nets import is_even, is_net, ring, whole_net
from emptierbox.stands import after_on, as_loads, load_of, put_on
from tests.things import assert_plain, chance_net, chance_stand


def chance_order(chance, n):
    order = list(range(n))
    chance.shuffle(order)
    return tuple(order)


def exchanged_spread(spread, order):
    """A spread of stands with each stand exchanged, rising again."""
    found = []
    for stand, share in spread:
        numbers = [None] * len(stand)
        for a, number in enumerate(stand):
            numbers[order[a]] = number
        found.append((tuple(numbers), share))
    return sorted(found)


def inverse(order):
    return tuple(sorted(range(len(order)), key=lambda a: order[a]))


class ExchangedNet(unittest.TestCase):
    def test_by_hand(self):
        self.assertEqual(exchanged_net((3, ((0, 1), (1, 2), (0, 0)), "left"), (1, 2, 0)),
                         (3, ((1, 2), (2, 0), (1, 1)), "left"))
        self.assertEqual(exchanged_net((3, ((2, 0), (0, 2), (2, 0)), "dice"), (2, 1, 0)),
                         (3, ((0, 2), (2, 0), (0, 2)), "dice"))
        self.assertEqual(exchanged_net(ring(1, "dice"), (0,)), ring(1, "dice"))
        self.assertEqual(exchanged_net(ring(3, "left"), (1, 2, 0)), (3, ((1, 2), (2, 0), (0, 1)), "left"))

    def test_pairs_as_they_stand_in_their_old_order(self):
        chance = random.Random(60)
        for at in range(150):
            net = chance_net(at + 3000)
            order = chance_order(chance, net[0])
            answer = exchanged_net(net, order)
            self.assertTrue(is_net(answer))
            assert_plain(self, answer)
            self.assertEqual((answer[0], answer[2]), (net[0], net[2]))
            self.assertEqual(len(answer[1]), len(net[1]))
            for (a, b), (c, d) in zip(net[1], answer[1]):
                self.assertEqual((c, d), (order[a], order[b]))
            self.assertEqual(is_even(answer), is_even(net))
            self.assertEqual(exchanged_net(answer, inverse(order)), net)
            self.assertEqual(exchanged_net(net, tuple(range(net[0]))), net)

    def test_whole_nets_have_the_same_pairs(self):
        for order in itertools.permutations(range(3)):
            self.assertEqual(sorted(exchanged_net(whole_net(3, "left"), order)[1]), list(whole_net(3, "left")[1]))


class ExchangedStand(unittest.TestCase):
    def test_by_hand(self):
        self.assertEqual(exchanged_stand((5, 7, 9), (1, 2, 0)), (9, 5, 7))
        self.assertEqual(exchanged_stand((5, 7, 9), (0, 2, 1)), (5, 9, 7))
        self.assertEqual(exchanged_stand((5, 7), (1, 0)), (7, 5))
        self.assertEqual(exchanged_stand((4,), (0,)), (4,))

    def test_all_orders(self):
        for n in range(1, 7):
            stand = tuple(10 + box for box in range(n))
            for order in itertools.permutations(range(n)):
                answer = exchanged_stand(stand, order)
                assert_plain(self, answer)
                for a in range(n):
                    self.assertEqual(answer[order[a]], stand[a])
                self.assertEqual(exchanged_stand(answer, inverse(order)), stand)
                self.assertEqual(load_of(answer), load_of(stand))

    def test_boxes_that_hold_as_much(self):
        for order in itertools.permutations(range(4)):
            answer = exchanged_stand((3, 3, 0, 3), order)
            self.assertEqual([answer[order[a]] for a in range(4)], [3, 3, 0, 3])


class NamesExchanged(unittest.TestCase):
    def test_the_spreads_are_the_exchanged_ones(self):
        chance = random.Random(61)
        for at in range(80):
            net = chance_net(at + 4000, most=9)
            order = chance_order(chance, net[0])
            stand = chance_stand(chance, net[0])
            for many in (0, 1, 2, 3, 5):
                spread = after_on(net, stand, many)
                wanted = exchanged_spread(spread, order)
                self.assertEqual(after_on(exchanged_net(net, order), exchanged_stand(stand, order), many), wanted)
                self.assertEqual(put_on(exchanged_net(net, order), wanted),
                                 exchanged_spread(put_on(net, spread), order))
                self.assertEqual(as_loads(wanted), as_loads(spread))

    def test_all_orders(self):
        net, stand = (4, ((0, 1), (2, 1), (3, 3), (0, 3), (0, 3)), "left"), (1, 0, 0, 1)
        spread = after_on(net, stand, 4)
        for order in itertools.permutations(range(4)):
            self.assertEqual(after_on(exchanged_net(net, order), exchanged_stand(stand, order), 4),
                             exchanged_spread(spread, order))


if __name__ == "__main__":
    unittest.main()
