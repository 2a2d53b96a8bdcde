import itertools
import unittest

from emptierbox.errors import NoBall
from emptierbox.loads import all_loads, is_load, put_at, taken_from
from tests.things import anything, assert_plain, assert_refused


def sorted_loads(n, balls):
    """All loads, out of all tuples of n numbers, by their meaning alone."""
    tuples = itertools.combinations_with_replacement(range(balls, -1, -1), n)
    return sorted(numbers for numbers in tuples if sum(numbers) == balls)


class IsLoad(unittest.TestCase):
    def test_loads(self):
        for thing in [(0,), (5,), (0, 0), (1, 0), (2, 2, 1), (1, 1, 1, 1, 1, 1), (6, 5, 4, 3, 2, 1), (0,) * 6]:
            self.assertIs(is_load(thing), True)

    def test_however_many_balls(self):
        for thing in [(41,), (40, 40, 1), (10 ** 199, 10 ** 199, 3), (10 ** 199,) * 6]:
            self.assertIs(is_load(thing), True)

    def test_not_falling(self):
        for thing in [(0, 1), (2, 1, 2), (1, 1, 1, 1, 1, 2), (3, 0, 1), (10 ** 199, 10 ** 199 + 1)]:
            self.assertIs(is_load(thing), False)

    def test_below_nought(self):
        for thing in [(-1,), (0, -1), (2, 1, -1), (-1, -1), (-(10 ** 199),)]:
            self.assertIs(is_load(thing), False)

    def test_too_few_and_too_many_boxes(self):
        for thing in [(), (0,) * 7, (7, 6, 5, 4, 3, 2, 1), (1,) * 12]:
            self.assertIs(is_load(thing), False)

    def test_all_tuples_of_small_numbers(self):
        for n in range(1, 5):
            for numbers in itertools.product(range(-1, 4), repeat=n):
                right = min(numbers) >= 0 and list(numbers) == sorted(numbers, reverse=True)
                self.assertIs(is_load(numbers), right)

    def test_truths_are_no_whole_numbers(self):
        for thing in [(True,), (False,), (2, True), (True, 0), (1, False), (2, 1, False), (True, False)]:
            self.assertIs(is_load(thing), False)

    def test_other_kinds(self):
        for thing in [[2, 1], [0], {2: 1}, "21", 21, ("2", "1"), (2, None), (2, "1"), ((2,), (1,)), ((2, 1),),
                      ([2], 1)]:
            self.assertIs(is_load(thing), False)

    def test_anything(self):
        # Of the things looked at everywhere none is a load: each tuple of numbers in it is unfit.
        for thing in anything():
            shown = repr(thing)
            self.assertIs(is_load(thing), False, shown[:60])
            self.assertEqual(repr(thing), shown)


class PutAndTaken(unittest.TestCase):
    def test_put_by_hand(self):
        self.assertEqual(put_at((0,), 0), (1,))
        self.assertEqual(put_at((2, 1, 0), 0), (3, 1, 0))
        self.assertEqual(put_at((2, 1, 0), 1), (2, 2, 0))
        self.assertEqual(put_at((2, 1, 0), 2), (2, 1, 1))
        self.assertEqual(put_at((1, 1, 1), 2), (2, 1, 1))
        self.assertEqual(put_at((3, 1, 1, 0), 2), (3, 2, 1, 0))

    def test_taken_by_hand(self):
        self.assertEqual(taken_from((1,), 0), (0,))
        self.assertEqual(taken_from((2, 1, 0), 0), (1, 1, 0))
        self.assertEqual(taken_from((2, 1, 0), 1), (2, 0, 0))
        self.assertEqual(taken_from((1, 1, 1), 0), (1, 1, 0))
        self.assertEqual(taken_from((3, 2, 2, 0), 1), (3, 2, 1, 0))

    def test_no_ball(self):
        assert_refused(self, NoBall, taken_from, (0,), 0)
        assert_refused(self, NoBall, taken_from, (2, 1, 0), 2)
        assert_refused(self, NoBall, taken_from, (4, 0, 0, 0, 0, 0), 1)
        for rank in range(6):
            assert_refused(self, NoBall, taken_from, (0,) * 6, rank)

    def test_each_rank_of_each_load(self):
        for n in range(1, 7):
            for load in sorted_loads(n, 8):
                for rank in range(n):
                    self.check_rank(load, rank)

    def check_rank(self, load, rank):
        more, less = list(load), list(load)
        more[rank] += 1
        less[rank] -= 1
        put = put_at(load, rank)
        self.assertEqual(put, tuple(sorted(more, reverse=True)))
        assert_plain(self, put)
        self.assertIs(is_load(put), True)
        if load[rank] == 0:
            assert_refused(self, NoBall, taken_from, load, rank)
        else:
            self.assertEqual(taken_from(load, rank), tuple(sorted(less, reverse=True)))
            self.assertIs(type(taken_from(load, rank)), tuple)

    def test_boxes_that_hold_alike_do_not_matter(self):
        load = (3, 2, 2, 2, 1, 1)
        self.assertEqual({put_at(load, rank) for rank in (1, 2, 3)}, {(3, 3, 2, 2, 1, 1)})
        self.assertEqual({taken_from(load, rank) for rank in (1, 2, 3)}, {(3, 2, 2, 1, 1, 1)})

    def test_told_loads_of_many_balls(self):
        self.assertEqual(put_at((10 ** 30, 10 ** 30), 1), (10 ** 30 + 1, 10 ** 30))
        self.assertEqual(taken_from((10 ** 30, 10 ** 30), 0), (10 ** 30, 10 ** 30 - 1))


class AllLoads(unittest.TestCase):
    def test_by_hand(self):
        self.assertEqual(all_loads(1, 0), [(0,)])
        self.assertEqual(all_loads(1, 12), [(12,)])
        self.assertEqual(all_loads(3, 0), [(0, 0, 0)])
        self.assertEqual(all_loads(2, 3), [(2, 1), (3, 0)])
        self.assertEqual(all_loads(3, 4), [(2, 1, 1), (2, 2, 0), (3, 1, 0), (4, 0, 0)])

    def test_all_boxes_and_balls(self):
        for n in range(1, 7):
            for balls in range(13):
                found = all_loads(n, balls)
                self.assertIs(type(found), list)
                assert_plain(self, found)
                self.assertEqual(found, sorted_loads(n, balls))
                self.assertEqual(len(set(found)), len(found))
                self.assertTrue(all(is_load(load) for load in found))

    def test_the_most(self):
        self.assertEqual(len(all_loads(6, 12)), 58)

    def test_a_new_list_each_time(self):
        for n, balls in ((1, 0), (3, 0), (3, 4), (6, 12)):
            first = all_loads(n, balls)
            kept = list(first)
            first.append("more")
            first[0] = None
            second = all_loads(n, balls)
            self.assertEqual(second, kept)
            self.assertIsNot(first, second)
            second.clear()
            self.assertEqual(all_loads(n, balls), kept)


if __name__ == "__main__":
    unittest.main()
