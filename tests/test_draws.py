import itertools
import random
import unittest

from emptierbox.draws import by_draws, order_matters
from tests.things import assert_plain, chance_stand


def slow_by_draws(stand, draws):
    """By the words of the document: into the drawn box that holds least, of such the first one in the draw."""
    held, boxes = dict(enumerate(stand)), []
    for draw in draws:
        least = min(held[box] for box in draw)
        box = [box for box in draw if held[box] == least][0]
        held[box] += 1
        boxes.append(box)
    return tuple(held[box] for box in range(len(stand))), boxes


def slow_order_matters(stand, draws):
    wanted = slow_by_draws(stand, draws)[0]
    for k in range(len(draws) - 1):
        other = list(draws)
        other[k], other[k + 1] = other[k + 1], other[k]
        if slow_by_draws(stand, other)[0] != wanted:
            return k
    return None


def chance_draws(chance, n, many):
    return [tuple(chance.randrange(n) for at in range(chance.randrange(1, 4))) for draw in range(many)]


class ByDraws(unittest.TestCase):
    def test_by_hand(self):
        self.assertEqual(by_draws((0, 0), []), ((0, 0), []))
        self.assertEqual(by_draws((0,), [(0,), (0, 0), (0, 0, 0)]), ((3,), [0, 0, 0]))
        self.assertEqual(by_draws((2, 1, 0), [(0, 1), (0, 1), (0, 1, 2)]), ((3, 2, 1), [1, 0, 2]))
        self.assertEqual(by_draws((5, 0), [(0,), (0, 0), (1,)]), ((7, 1), [0, 0, 1]))

    def test_the_first_one_in_the_draw(self):
        """Not the one with the least number."""
        self.assertEqual(by_draws((0, 0, 0), [(2, 1, 0)]), ((0, 0, 1), [2]))
        self.assertEqual(by_draws((0, 0, 0), [(1, 0)]), ((0, 1, 0), [1]))
        self.assertEqual(by_draws((1, 0, 0), [(0, 2, 1)]), ((1, 0, 1), [2]))
        self.assertEqual(by_draws((3, 3, 3), [(1, 2, 0), (1, 2, 0), (1, 2, 0)]), ((4, 4, 4), [1, 2, 0]))
        for order in itertools.permutations(range(3)):
            self.assertEqual(by_draws((7, 7, 7), [order])[1], [order[0]])

    def test_all_draws(self):
        for n in range(1, 5):
            for many in (1, 2, 3):
                for draw in itertools.product(range(n), repeat=many):
                    for stand in itertools.product(range(3), repeat=n):
                        self.assertEqual(by_draws(stand, [draw]), slow_by_draws(stand, [draw]))

    def test_by_chance(self):
        chance = random.Random(62)
        for many in range(61):
            for n in range(1, 7):
                stand, draws = chance_stand(chance, n), chance_draws(chance, n, many)
                shown = repr((stand, draws))
                answer = by_draws(stand, draws)
                self.assertEqual(answer, slow_by_draws(stand, draws))
                self.assertEqual(repr((stand, draws)), shown)
                self.assertIs(type(answer), tuple)
                self.assertIs(type(answer[0]), tuple)
                self.assertIs(type(answer[1]), list)
                self.assertEqual(len(answer[1]), many)
                assert_plain(self, answer)

    def test_great_numbers(self):
        self.assertEqual(by_draws((10 ** 29, 10 ** 29 + 1), [(1, 0), (1, 0), (0, 1)]),
                         ((10 ** 29 + 2, 10 ** 29 + 2), [0, 1, 0]))

    def test_a_new_list_each_time(self):
        draws = [(0, 1), (1,)]
        first = by_draws((0, 0), draws)
        first[1].clear()
        self.assertEqual(by_draws((0, 0), draws), ((1, 1), [0, 1]))
        kept = by_draws((0, 0), draws)
        draws.clear()
        self.assertEqual(kept, ((1, 1), [0, 1]))
        self.assertIsNot(by_draws((0,), [])[1], by_draws((0,), [])[1])


class OrderMatters(unittest.TestCase):
    def test_by_hand(self):
        self.assertIsNone(order_matters((0, 0), []))
        self.assertIsNone(order_matters((0, 0), [(0, 1)]))
        self.assertIsNone(order_matters((0, 0), [(0,), (1,)]))
        self.assertIsNone(order_matters((0, 0), [(0, 1), (0, 1)]))
        # First the free ball, then the told one: both in box 0. The other way about it is one in each.
        self.assertEqual(order_matters((0, 0), [(0, 1), (0,)]), 0)
        self.assertEqual(order_matters((0, 0, 0), [(2,), (0, 1), (0,)]), 1)
        self.assertEqual(order_matters((0, 0, 0, 0), [(2,), (3,), (2,), (0, 1), (0,)]), 3)

    def test_another_stand_of_the_same_load_counts(self):
        self.assertEqual(by_draws((0, 0), [(0, 1), (1,)])[0], (1, 1))
        self.assertEqual(order_matters((0, 1), [(0, 1), (1, 0)]), 0)
        self.assertEqual(sorted(by_draws((0, 1), [(0, 1), (1, 0)])[0]),
                         sorted(by_draws((0, 1), [(1, 0), (0, 1)])[0]))

    def test_the_stand_behind_all_draws(self):
        """Draws that lead to another stand on the way, but not behind all of them, don't matter."""
        found = 0
        for draws in itertools.product([(0, 1), (0,), (1,), (1, 0)], repeat=3):
            draws = list(draws)
            changed = [draws[1], draws[0], draws[2]]
            on_the_way = by_draws((0, 0), draws[:2])[0] != by_draws((0, 0), changed[:2])[0]
            behind = by_draws((0, 0), draws)[0] != by_draws((0, 0), changed)[0]
            found += on_the_way and not behind
            if on_the_way and not behind:
                self.assertNotEqual(order_matters((0, 0), draws), 0)
        self.assertGreater(found, 0)

    def test_by_chance(self):
        chance = random.Random(63)
        told = []
        for turn in range(400):
            n, many = chance.randrange(1, 7), chance.choice((0, 1, 2, 3, 5, 8, 20, 60))
            stand, draws = chance_stand(chance, n), chance_draws(chance, n, many)
            shown = repr((stand, draws))
            answer = order_matters(stand, draws)
            self.assertEqual(answer, slow_order_matters(stand, draws))
            self.assertEqual(repr((stand, draws)), shown)
            assert_plain(self, answer)
            told.append(answer)
        self.assertGreater(len(set(told)), 8)
        self.assertGreater(told.count(None), 40)

    def test_each_place(self):
        for k in range(59):
            draws = [(2,)] * k + [(0, 1), (0,)] + [(2,)] * (58 - k)
            self.assertEqual(len(draws), 60)
            self.assertEqual(order_matters((0, 0, 0), draws), k)

    def test_one_or_no_draw(self):
        for n in range(1, 7):
            for box in range(n):
                self.assertIsNone(order_matters((1,) * n, [(box,)]))
                self.assertIsNone(order_matters((1,) * n, [(box, 0, n - 1)]))
            self.assertIsNone(order_matters((1,) * n, []))


if __name__ == "__main__":
    unittest.main()
