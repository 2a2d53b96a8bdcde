import unittest

from emptierbox.errors import Unlike
from emptierbox.loads import all_loads
from emptierbox.order import first_fuller, lets_moves, moves
from tests.things import anything, assert_plain, assert_refused

KINDS = [(1, 0), (1, 5), (2, 0), (2, 7), (3, 6), (3, 9), (4, 8), (5, 7), (6, 6), (6, 8)]

UNLIKE = [((1,), (1, 0)), ((1, 0), (1,)), ((2, 1), (2, 0)), ((2, 0), (2, 1)), ((0,), (1,)), ((3, 0, 0), (2, 1)),
          ((2, 2), (2, 1, 1, 1)), ((0, 0), (0, 0, 0)), ((1, 1, 1, 1, 1, 1), (1, 1, 1, 1, 1, 0))]


def pairs():
    """All two loads alike in kind, of some kinds."""
    for n, balls in KINDS:
        for one in all_loads(n, balls):
            for other in all_loads(n, balls):
                yield one, other


def least_fuller(one, other):
    for k in range(len(one) + 1):
        if sum(one[:k]) > sum(other[:k]):
            return k
    return None


def behind(load, move):
    """The load behind a move, None where it can't be done: by the words of the document."""
    i, j = move
    if load[i] < load[j] + 2:
        return None
    numbers = list(load)
    numbers[i] -= 1
    numbers[j] += 1
    return tuple(sorted(numbers, reverse=True))


def reached(other):
    """All loads that rows of moves lead to, other itself too."""
    found, new = {other}, [other]
    while new:
        load = new.pop()
        for i in range(len(load)):
            for j in range(len(load)):
                then = behind(load, (i, j))
                if then is not None and then not in found:
                    found.add(then)
                    new.append(then)
    return found


class FirstFuller(unittest.TestCase):
    def test_by_hand(self):
        self.assertIsNone(first_fuller((2, 2), (3, 1)))
        self.assertIsNone(first_fuller((3, 1), (3, 1)))
        self.assertEqual(first_fuller((3, 1), (2, 2)), 1)
        self.assertEqual(first_fuller((3, 3, 0), (4, 1, 1)), 2)
        self.assertEqual(first_fuller((4, 1, 1), (3, 3, 0)), 1)
        self.assertEqual(first_fuller((2, 2, 2, 0), (3, 1, 1, 1)), 3)
        self.assertEqual(first_fuller((1, 1, 1, 1, 1, 0), (2, 1, 1, 1, 0, 0)), None)

    def test_all_pairs(self):
        for one, other in pairs():
            self.assertEqual(first_fuller(one, other), least_fuller(one, other))
            assert_plain(self, first_fuller(one, other))

    def test_of_many_balls(self):
        much = 10 ** 30
        self.assertIsNone(first_fuller((much, much), (much + 1, much - 1)))
        self.assertEqual(first_fuller((much, much + 1 - 1, 0), (much, much - 1, 1)), 2)

    def test_unlike(self):
        for one, other in UNLIKE:
            assert_refused(self, Unlike, first_fuller, one, other)


class Moves(unittest.TestCase):
    def test_by_hand(self):
        self.assertEqual(moves((2, 1), (2, 1)), [])
        self.assertEqual(moves((2, 2), (3, 1)), [(0, 1)])
        self.assertIsNone(moves((3, 1), (2, 2)))
        self.assertIsNone(moves((3, 3, 0), (4, 1, 1)))

    def test_all_pairs(self):
        for one, other in pairs():
            told = moves(one, other)
            assert_plain(self, told)
            if least_fuller(one, other) is None:
                self.assertIs(type(told), list)
                self.check_moves(one, other, told)
            else:
                self.assertIsNone(told)

    def check_moves(self, one, other, told):
        load = other
        for move in told:
            self.assertIs(type(move), tuple)
            load = behind(load, move)
            self.assertIsNotNone(load)
        self.assertEqual(load, one)
        self.assertIs(lets_moves(one, other, told), True)

    def test_forty_balls(self):
        one, other = (7, 7, 7, 7, 6, 6), (40, 0, 0, 0, 0, 0)
        self.check_moves(one, other, moves(one, other))
        self.assertIsNone(moves(other, one))

    def test_many_balls_and_few_moves(self):
        much = 10 ** 30
        self.assertEqual(moves((much, much), (much + 1, much - 1)), [(0, 1)])

    def test_a_new_list_each_time(self):
        for one, other in (((2, 2), (3, 1)), ((2, 1), (2, 1)), ((2, 2, 2), (6, 0, 0))):
            first = moves(one, other)
            kept = list(first)
            first.append((0, 0))
            self.assertEqual(moves(one, other), kept)

    def test_unlike(self):
        for one, other in UNLIKE:
            assert_refused(self, Unlike, moves, one, other)


class LetsMoves(unittest.TestCase):
    def test_by_hand(self):
        self.assertIs(lets_moves((2, 1), (2, 1), []), True)
        self.assertIs(lets_moves((2, 2), (3, 1), [(0, 1)]), True)
        self.assertIs(lets_moves((2, 2, 2), (4, 2, 0), [(0, 2), (0, 2)]), True)
        self.assertIs(lets_moves((2, 2, 2), (4, 2, 0), [(0, 1), (0, 2), (0, 2)]), True)
        self.assertIs(lets_moves((2, 2, 2), (4, 2, 0), [(0, 1), (0, 2), (1, 2)]), False)
        self.assertIs(lets_moves((2, 2, 2), (4, 2, 0), [(0, 1), (0, 2)]), False)
        self.assertIs(lets_moves((3, 3, 0), (4, 2, 0), [(0, 1)]), True)

    def test_ways_round(self):
        self.assertIs(lets_moves((3, 2, 1), (4, 2, 0), [(0, 2)]), True)
        self.assertIs(lets_moves((2, 2, 2), (4, 2, 0), [(1, 2), (0, 1), (0, 1)]), False)
        self.assertIs(lets_moves((2, 2, 2), (4, 2, 0), [(1, 2), (0, 1), (0, 2)]), True)
        self.assertIs(lets_moves((2, 2, 2), (4, 2, 0), [(0, 1), (1, 2), (0, 2)]), True)

    def test_the_boxes_are_sorted_behind_each_move(self):
        self.assertIs(lets_moves((2, 1, 1), (2, 2, 0), [(0, 2)]), True)
        self.assertIs(lets_moves((3, 2, 2, 0), (3, 3, 1, 0), [(0, 2)]), True)
        self.assertIs(lets_moves((3, 2, 2, 1), (4, 3, 1, 0), [(0, 3), (1, 3)]), True)
        # Behind (0, 3) the load is (4, 4, 3, 1): at rank 0 there are four again.
        self.assertIs(lets_moves((4, 3, 3, 2), (4, 4, 4, 0), [(0, 3), (0, 3)]), True)
        self.assertIs(lets_moves((4, 4, 2, 2), (4, 4, 4, 0), [(0, 3), (2, 3)]), True)
        self.assertIs(lets_moves((4, 4, 2, 2), (4, 4, 4, 0), [(0, 3), (0, 3)]), False)
        self.assertIs(lets_moves((4, 4, 2, 2), (4, 4, 4, 0), [(0, 3), (2, 3), (2, 3)]), False)

    def test_the_number_there_is_at_least_two_more(self):
        self.assertIs(lets_moves((2, 1), (2, 1), [(0, 1)]), False)
        self.assertIs(lets_moves((1, 1), (1, 1), [(0, 1)]), False)
        self.assertIs(lets_moves((1, 1), (1, 1), [(0, 0)]), False)
        self.assertIs(lets_moves((3, 0), (3, 0), [(0, 0)]), False)
        self.assertIs(lets_moves((4, 0), (3, 1), [(1, 0)]), False)
        self.assertIs(lets_moves((3, 1), (3, 1), [(1, 0), (0, 1)]), False)

    def test_it_begins_with_other(self):
        self.assertIs(lets_moves((3, 1), (2, 2), [(0, 1)]), False)
        self.assertIs(lets_moves((2, 2), (3, 1), []), False)
        self.assertIs(lets_moves((3, 1), (2, 2), []), False)

    def test_each_single_move(self):
        for one, other in pairs():
            for i in range(len(one)):
                for j in range(len(one)):
                    self.assertIs(lets_moves(one, other, [(i, j)]), behind(other, (i, j)) == one)

    def test_whatever_is_let_by_is_no_fuller(self):
        for n, balls in KINDS:
            for other in all_loads(n, balls):
                lower = sorted(reached(other))
                self.assertEqual(lower, [one for one in all_loads(n, balls) if first_fuller(one, other) is None])

    def test_ranks_that_are_none(self):
        for i, j in ((False, True), (False, 1), (0, True), (-2, -1), (0, -1), (-2, 1), (0, 2), (2, 1), (0, 10 ** 199),
                     (-(10 ** 199), 1), (None, 1), (0, None), ("0", "1"), ("0", 1), ((0,), 1), ([], {}), ({}, 1)):
            self.assertIs(lets_moves((2, 2), (3, 1), [(i, j)]), False)
        self.assertIs(lets_moves((2, 1, 1), (3, 1, 0), [(0, -1)]), False)
        self.assertIs(lets_moves((2, 1, 1), (3, 1, 0), [(0, 3)]), False)

    def test_moves_that_are_none(self):
        for thing in ([[0, 1]], ((0, 1),), {0: 1}, [{0: 1, 1: 1}], [(0,)], [(0, 1, 1)], [()], [0, 1], ["01"], (0, 1),
                      [[(0, 1)]], [((0, 1),)], {(0, 1): True}, "[(0, 1)]", [(0, 1), None], [(0, 1), ()],
                      [None, (0, 1)]):
            self.assertIs(lets_moves((2, 2), (3, 1), thing), False)
        for thing in ((), {}, None, False, 0, "", [()], [[]], [None]):
            self.assertIs(lets_moves((2, 1), (2, 1), thing), False)

    def test_anything(self):
        for one, other in (((2, 2), (3, 1)), ((2, 1), (2, 1)), ((0,), (0,)), ((4, 2, 1, 1, 0, 0), (5, 3, 0, 0, 0, 0))):
            for thing in anything():
                shown = repr(thing)
                self.assertIs(lets_moves(one, other, thing), False, shown[:60])
                self.assertEqual(repr(thing), shown)

    def test_the_list_stays_as_it_was(self):
        thing = [(0, 2), (0, 2)]
        lets_moves((2, 2, 2), (4, 2, 0), thing)
        self.assertEqual(thing, [(0, 2), (0, 2)])

    def test_long_lists(self):
        one, other = (7, 7, 7, 7, 6, 6), (40, 0, 0, 0, 0, 0)
        told = moves(one, other)
        self.assertIs(lets_moves(one, other, told + [(0, 5)]), False)
        self.assertIs(lets_moves(one, other, told[:-1]), False)
        self.assertIs(lets_moves(one, other, told * 100), False)

    def test_unlike_goes_ahead_of_whatever_is_told_of_a_thing(self):
        for one, other in UNLIKE:
            for thing in [[], [(0, 1)], *anything()]:
                assert_refused(self, Unlike, lets_moves, one, other, thing)


if __name__ == "__main__":
    unittest.main()
