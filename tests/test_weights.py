import random
import unittest

from emptierbox.weights import evened
from tests.things import assert_plain, chance_stand


def slow_evened(stand, weights):
    held = list(stand)
    for weight in weights:
        for box in range(len(held)):
            if all(held[box] <= other for other in held):
                held[box] += weight
                break
    return tuple(held)


def gap(stand):
    return max(stand) - min(stand)


class Evened(unittest.TestCase):
    def test_by_hand(self):
        self.assertEqual(evened((0,), []), (0,))
        self.assertEqual(evened((4, 2), []), (4, 2))
        self.assertEqual(evened((0, 0), [5, 3, 3]), (5, 6))
        self.assertEqual(evened((0, 0, 0), [1, 2, 3, 4]), (5, 2, 3))
        self.assertEqual(evened((7,), [1, 2, 3]), (13,))
        self.assertEqual(evened((9, 1, 5), [3, 1, 2]), (9, 7, 5))

    def test_in_a_tie_the_least_number(self):
        self.assertEqual(evened((2, 1, 1), [5]), (2, 6, 1))
        self.assertEqual(evened((1, 1, 1), [1, 1, 1, 1]), (3, 2, 2))
        self.assertEqual(evened((3, 0, 3, 0), [3, 3, 1, 1, 1, 1]), (4, 4, 4, 4))
        for n in range(1, 7):
            self.assertEqual(evened((4,) * n, [2]), (6,) + (4,) * (n - 1))

    def test_one_behind_another(self):
        self.assertEqual(evened((0, 0), [1, 9, 1]), (2, 9))
        self.assertEqual(evened((0, 0), [9, 1, 1]), (9, 2))
        self.assertEqual(evened((0, 0), [1, 1, 9]), (10, 1))

    def test_by_chance(self):
        chance = random.Random(70)
        for many in range(61):
            for n in range(1, 7):
                for most in (2, 9, 10 ** 11, 10 ** 29):
                    stand = chance_stand(chance, n, chance.choice((0, 3, 10 ** 11)))
                    weights = [chance.randrange(1, most + 1) for at in range(many)]
                    shown = repr((stand, weights))
                    answer = evened(stand, weights)
                    self.assertEqual(answer, slow_evened(stand, weights))
                    self.assertEqual(sum(answer), sum(stand) + sum(weights))
                    self.assertLessEqual(gap(answer), max([gap(stand)] + weights))
                    self.assertEqual(repr((stand, weights)), shown)
                    self.assertIs(type(answer), tuple)
                    assert_plain(self, answer)

    def test_great_weights(self):
        great = 10 ** 30 - 1
        self.assertEqual(evened((10 ** 12 - 1, 0), [great, great, 1]), (10 ** 12 - 1 + great, great + 1))
        self.assertEqual(evened((0,) * 6, [great] * 60), (10 * great,) * 6)
        self.assertEqual(evened((0,), [great] * 60), (60 * great,))

    def test_the_gap_can_be_as_great_as_that(self):
        self.assertEqual(gap(evened((0, 0), [8])), 8)
        self.assertEqual(gap(evened((5, 0), [])), 5)
        self.assertEqual(gap(evened((8, 0, 8), [8, 8])), 8)

    def test_what_is_told_is_handed_in_again(self):
        chance = random.Random(71)
        weights = [chance.randrange(1, 10 ** 6) for at in range(40)]
        stand = (0, 3, 1)
        for weight in weights:
            stand = evened(stand, [weight])
        self.assertEqual(stand, evened((0, 3, 1), weights))


if __name__ == "__main__":
    unittest.main()
