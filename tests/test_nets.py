import unittest

from emptierbox.nets import is_even, is_net, ring, whole_net
from tests.things import anything, assert_plain, chance_net, nested

TIES = ("left", "dice")


def slow_even(net):
    """Box by box: how often it stands in a pair, in (a, a) twice."""
    boxes, pairs, ties = net
    often = set()
    for box in range(boxes):
        often.add(sum((a == box) + (b == box) for a, b in pairs))
    return len(often) == 1


class IsNet(unittest.TestCase):
    def test_nets(self):
        for ties in TIES:
            for thing in [(1, ((0, 0),), ties), (1, ((0, 0),) * 40, ties), (2, ((0, 1),), ties), (2, ((1, 0),), ties),
                          (3, ((0, 0),), ties), (6, ((5, 5), (0, 5)), ties), (2, ((0, 1), (0, 1), (1, 0)), ties),
                          (6, tuple((a, b) for a in range(6) for b in range(6)) + ((0, 1),) * 4, ties)]:
                self.assertIs(is_net(thing), True, thing)

    def test_nets_by_chance(self):
        for at in range(200):
            self.assertIs(is_net(chance_net(at)), True)

    def test_boxes(self):
        for boxes in [0, -1, 7, 8, 40, 10 ** 199, True, False, None, "1", "2", (1,), [1], {}, (), ((0, 0),)]:
            self.assertIs(is_net((boxes, ((0, 0),), "left")), False, boxes)
        for boxes in range(1, 7):
            self.assertIs(is_net((boxes, ((0, 0),), "left")), True)

    def test_how_many_pairs(self):
        for many in range(45):
            for pair in ((0, 0), (0, 1), (2, 1)):
                self.assertIs(is_net((3, (pair,) * many, "dice")), 1 <= many <= 40)
        self.assertIs(is_net((3, ((0, 1),) * 3000, "dice")), False)

    def test_pairs_that_are_none(self):
        for pairs in [None, 0, 1, True, "", "01", [], [(0, 1)], {}, {(0, 1): 1}, {0: 1}, (0, 1), ((0, 1), None),
                      ((0, 1), ()), ((0,),), ((0, 1, 0),), ([0, 1],), ((0, 1), [0, 1]), ((0, 1), (0,)),
                      ((0, 1), (0, 1, 1)), (((0, 1),),), (((0, 1), (0, 1)),), ("01",), ({0: 1},), ({0: 1, 1: 0},),
                      (None,), (0,), (True,), ((0, 1), 0)]:
            self.assertIs(is_net((2, pairs, "left")), False, pairs)

    def test_boxes_in_pairs(self):
        for boxes in range(1, 7):
            for box in [-1, -10 ** 199, boxes, boxes + 1, 10 ** 199, True, False, None, "0", (0,), [0], {}, ()]:
                for pair in [(box, 0), (0, box), (box, box)]:
                    self.assertIs(is_net((boxes, (pair,), "left")), False, pair)
                    self.assertIs(is_net((boxes, ((0, 0), pair), "dice")), False, pair)
                    self.assertIs(is_net((boxes, (pair, (0, 0)), "dice")), False, pair)
            self.assertIs(is_net((boxes, ((boxes - 1, 0), (0, boxes - 1)), "left")), True)

    def test_ties(self):
        for ties in ["", "Left", "LEFT", "Dice", "right", "lef", "left ", " left", "dices", "leftdice", None, 0, 1, True,
                     ("left",), ["left"], {"left": 1}, ("left", "dice"), [], (), {}, b"left"]:
            self.assertIs(is_net((2, ((0, 1),), ties)), False, ties)

    def test_other_kinds(self):
        good = (2, ((0, 1), (1, 0)), "left")
        for thing in [list(good), good[:2], good + ("left",), good[::-1], (good,), [good], str(good),
                      {0: 2, 1: good[1], 2: "left"}, (2, "left", ((0, 1),)), (((0, 1),), 2, "left"), (2, 0, 1)]:
            self.assertIs(is_net(thing), False)
        self.assertIs(is_net(good), True)

    def test_anything(self):
        for thing in [*anything(), []]:
            shown = repr(thing)
            self.assertIs(is_net(thing), False, shown[:60])
            self.assertIs(is_net((thing, ((0, 0),), "left")), thing == 1 and thing is not True, shown[:60])
            self.assertIs(is_net((1, thing, "left")), False, shown[:60])
            self.assertIs(is_net((1, (thing,), "left")), False, shown[:60])
            self.assertIs(is_net((1, ((0, thing),), "left")), thing == 0 and thing is not False, shown[:60])
            self.assertIs(is_net((1, ((0, 0),), thing)), False, shown[:60])
            self.assertEqual(repr(thing), shown)

    def test_nested_and_long(self):
        for kind in (tuple, list, dict):
            deep = nested(kind, 5)
            for thing in [(deep, ((0, 0),), "left"), (1, deep, "left"), (1, (deep,), "left"), (1, ((deep, 0),), "left"),
                          (1, ((0, deep),), "left"), (1, ((0, 0),), deep), (deep, deep, deep)]:
                self.assertIs(is_net(thing), False)
        self.assertIs(is_net((1, ((0, 0),) * 40, "left" * 2000)), False)
        self.assertIs(is_net((1, ((0,) * 9000,), "left")), False)


class Ring(unittest.TestCase):
    def test_by_hand(self):
        self.assertEqual(ring(1, "left"), (1, ((0, 0),), "left"))
        self.assertEqual(ring(2, "dice"), (2, ((0, 1), (1, 0)), "dice"))
        self.assertEqual(ring(3, "left"), (3, ((0, 1), (1, 2), (2, 0)), "left"))
        self.assertEqual(ring(6, "dice"), (6, ((0, 1), (1, 2), (2, 3), (3, 4), (4, 5), (5, 0)), "dice"))

    def test_each_ring(self):
        for ties in TIES:
            for n in range(1, 7):
                net = ring(n, ties)
                self.assertIs(is_net(net), True)
                self.assertIs(is_even(net), True)
                self.assertEqual(len(net[1]), n)
                assert_plain(self, net)


class WholeNet(unittest.TestCase):
    def test_by_hand(self):
        self.assertEqual(whole_net(1, "dice"), (1, ((0, 0),), "dice"))
        self.assertEqual(whole_net(2, "left"), (2, ((0, 0), (0, 1), (1, 0), (1, 1)), "left"))
        self.assertEqual(whole_net(3, "left"), (3, ((0, 0), (0, 1), (0, 2), (1, 0), (1, 1), (1, 2),
                                                    (2, 0), (2, 1), (2, 2)), "left"))

    def test_each_whole_net(self):
        for ties in TIES:
            for n in range(1, 7):
                net = whole_net(n, ties)
                self.assertEqual(net, (n, tuple(sorted({(a, b) for a in range(n) for b in range(n)})), ties))
                self.assertEqual(len(net[1]), n * n)
                self.assertIs(is_net(net), True)
                self.assertIs(is_even(net), True)
                assert_plain(self, net)


class IsEven(unittest.TestCase):
    def test_by_hand(self):
        for pairs, boxes, even in [(((0, 0),), 1, True), (((0, 0),) * 7, 1, True), (((0, 1),), 2, True),
                                   (((0, 0),), 2, False), (((1, 1),), 2, False), (((0, 0), (1, 1)), 2, True),
                                   (((0, 1), (2, 2)), 3, False), (((0, 1), (0, 1), (2, 2)), 3, True),
                                   (((0, 1),), 3, False), (((1, 2),), 3, False), (((0, 1), (1, 2)), 3, False),
                                   (((0, 1), (2, 3)), 4, True), (((0, 1), (2, 3)), 5, False),
                                   (((0, 1), (0, 2), (1, 2)), 3, True), (((0, 1), (0, 2), (0, 3)), 4, False)]:
            for ties in TIES:
                self.assertIs(is_even((boxes, pairs, ties)), even, pairs)

    def test_nets_that_miss_it_by_one_pair(self):
        for ties in TIES:
            for n in range(2, 7):
                for net in (ring(n, ties), whole_net(n, ties)):
                    pairs = net[1]
                    for at in range(len(pairs)):
                        less = (n, pairs[:at] + pairs[at + 1:], ties)
                        more = (n, pairs + (pairs[at],), ties)
                        # A pair of two boxes holds each of both once: without it two boxes are still even.
                        even = n == 2 and pairs[at][0] != pairs[at][1]
                        self.assertIs(is_even(less), even)
                        self.assertIs(is_even(more), even)

    def test_by_chance(self):
        found = 0
        for at in range(600):
            net = chance_net(at, most=6)
            self.assertIs(is_even(net), slow_even(net))
            found += slow_even(net)
        self.assertGreater(found, 50)
        self.assertLess(found, 550)


if __name__ == "__main__":
    unittest.main()
