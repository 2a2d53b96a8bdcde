import itertools
import random
import unittest
from fractions import Fraction

from emptierbox.errors import NoBall, TooMany, Unlike
from emptierbox.loads import all_loads
from emptierbox.rules import drawn, mixed, unlike
from emptierbox.spreads import after, alone, is_spread, leave, put
from tests.things import anything, assert_plain, assert_refused, chance_spread, long_rule, one_rank, some_rules, told


def spread_from(shares):
    """A dict of loads and fractions as a spread."""
    return [(load, told(share)) for load, share in sorted(shares.items()) if share > 0]


def add(shares, load, share):
    shares[load] = shares.get(load, Fraction(0)) + share


def falling(numbers):
    return tuple(sorted(numbers, reverse=True))


def slow_put(rule, spread):
    shares = {}
    for load, share in spread:
        for rank in range(len(rule)):
            numbers = list(load)
            numbers[rank] += 1
            add(shares, falling(numbers), Fraction(*share) * Fraction(*rule[rank]))
    return spread_from(shares)


def slow_leave(spread):
    """Ball by ball, each of them alike."""
    shares = {}
    for load, share in spread:
        balls = [rank for rank, number in enumerate(load) for ball in range(number)]
        for rank in balls:
            numbers = list(load)
            numbers[rank] -= 1
            add(shares, falling(numbers), Fraction(*share) / len(balls))
    return spread_from(shares)


def by_rows_of_draws(n, balls, sets):
    """Behind all rows of draws gone through one by one: a draw is a tuple of boxes by their numbers."""
    counts = {}
    sets = list(sets)
    for row in itertools.product(sets, repeat=balls):
        held = [0] * n
        for draw in row:
            held[min(draw, key=lambda box: held[box])] += 1
        add(counts, falling(held), Fraction(1, len(sets) ** balls))
    return spread_from(counts)


def gaps(some, balls):
    """The spread of two boxes' loads with these gaps, all alike."""
    loads = sorted(((balls + gap) // 2, (balls - gap) // 2) for gap in some)
    return [(load, (1, len(loads))) for load in loads]


def wide_spreads():
    """Spreads of more than 60 loads."""
    chance = random.Random(6)
    loads = [load for load in itertools.product(range(20), repeat=4) if falling(load) == load and sum(load) == 19]
    yield chance_spread(chance, loads[:61])
    yield chance_spread(chance, loads)
    yield gaps(range(0, 200, 2), 200)


class IsSpread(unittest.TestCase):
    def test_spreads(self):
        for thing in [[((0,), (1, 1))], [((1, 1), (1, 2)), ((2, 0), (1, 2))], [((3, 2, 1), (1, 1))],
                      [((2, 2), (1, 6)), ((3, 1), (1, 3)), ((4, 0), (1, 2))], [((0,) * 6, (1, 1))],
                      [((10 ** 199, 10 ** 199), (1, 3)), ((10 ** 199 + 1, 10 ** 199 - 1), (2, 3))]]:
            self.assertIs(is_spread(thing), True)

    def test_wide_spreads(self):
        for spread in wide_spreads():
            self.assertGreater(len(spread), 60)
            self.assertIs(is_spread(spread), True)

    def test_empty(self):
        self.assertIs(is_spread([]), False)
        self.assertIs(is_spread(()), False)

    def test_the_loads_are_alike_in_kind(self):
        for thing in [[((1,), (1, 2)), ((1, 0), (1, 2))], [((1, 1), (1, 2)), ((2, 1), (1, 2))],
                      [((1, 1), (1, 3)), ((2, 0), (1, 3)), ((2, 1), (1, 3))],
                      [((1, 0), (1, 2)), ((1, 0, 0), (1, 2))], [((2, 1, 0), (1, 2)), ((3, 0), (1, 2))]]:
            self.assertIs(is_spread(thing), False)

    def test_rising_and_each_once(self):
        for thing in [[((2, 0), (1, 2)), ((1, 1), (1, 2))], [((1, 1), (1, 2)), ((1, 1), (1, 2))],
                      [((2, 2), (1, 3)), ((4, 0), (1, 3)), ((3, 1), (1, 3))],
                      [((3, 1), (1, 3)), ((2, 2), (1, 3)), ((4, 0), (1, 3))],
                      [((2, 2), (1, 3)), ((3, 1), (1, 3)), ((3, 1), (1, 3))]]:
            self.assertIs(is_spread(thing), False)

    def test_shares_above_nought_together_one(self):
        for thing in [[((1, 1), (1, 2))], [((1, 1), (1, 2)), ((2, 0), (1, 3))], [((1, 1), (1, 2)), ((2, 0), (2, 3))],
                      [((1, 1), (0, 1)), ((2, 0), (1, 1))], [((1, 1), (1, 1)), ((2, 0), (0, 1))],
                      [((1, 1), (-1, 2)), ((2, 0), (3, 2))], [((1, 1), (3, 2)), ((2, 0), (-1, 2))],
                      [((1, 1), (0, 1))], [((1, 1), (2, 1))]]:
            self.assertIs(is_spread(thing), False)

    def test_shares_in_lowest_terms(self):
        for thing in [[((1, 1), (2, 2))], [((1, 1), (2, 4)), ((2, 0), (1, 2))], [((1, 1), (-1, -1))],
                      [((1, 1), (1, 2)), ((2, 0), (3, 6))]]:
            self.assertIs(is_spread(thing), False)

    def test_loads_that_are_none(self):
        for load in [(), (1, 2), (-1,), (True,), (1, False), [1], (None,), ("1",), 1, None, (0,) * 7, ((1,),)]:
            self.assertIs(is_spread([(load, (1, 1))]), False)
        self.assertIs(is_spread([((1, 1), (1, 2)), ((2, False), (1, 2))]), False)
        self.assertIs(is_spread([((1, 1), (1, 2)), ([2, 0], (1, 2))]), False)

    def test_shares_that_are_none(self):
        for share in [1, True, (1,), (True, 1), (1, True), [1, 1], (1, 1, 1), None, "1", ((1, 1),), (), {}]:
            self.assertIs(is_spread([((1, 0), share)]), False)
            self.assertIs(is_spread([((1, 1), (1, 1)), ((2, 0), share)]), False)

    def test_other_kinds(self):
        good = [((1, 1), (1, 2)), ((2, 0), (1, 2))]
        for thing in [tuple(good), dict(good), [list(row) for row in good], [good], [good[0], None], good + [()],
                      [((1, 0),)], [((1, 0), (1, 1), 0)], [((1, 0), (1, 1)), 1], [((1, 0), (1, 1)), []], [(1, 0)],
                      [((1, 1), (2, 0), (1, 1))], str(good), [(((1, 1), (1, 2)),), (((2, 0), (1, 2)),)]]:
            self.assertIs(is_spread(thing), False)
        self.assertIs(is_spread(good), True)

    def test_anything(self):
        for thing in anything():
            shown = repr(thing)
            self.assertIs(is_spread(thing), False, shown[:60])
            self.assertEqual(repr(thing), shown)

    def test_many_long_numbers(self):
        chance = random.Random(9)
        shares = []
        for at in range(600):
            bottom = chance.randrange(10 ** 190, 10 ** 194)
            half = Fraction(chance.randrange(1, bottom), bottom)
            shares += [told(half / 600), told((1 - half) / 600)]
        thing = [((2000 + at, 2000 - at), share) for at, share in enumerate(shares)]
        self.assertIs(is_spread(thing), True)
        top, bottom = thing[-1][1]
        thing[-1] = (thing[-1][0], told(Fraction(top + 1, bottom)))
        self.assertIs(is_spread(thing), False)


class Alone(unittest.TestCase):
    def test_one_load(self):
        for load in [(0,), (3, 1), (0, 0, 0, 0, 0, 0), (40,), (2, 2, 1)]:
            self.assertEqual(alone(load), [(load, (1, 1))])
            self.assertTrue(is_spread(alone(load)))
            assert_plain(self, alone(load))

    def test_a_new_list_each_time(self):
        first = alone((2, 1))
        first.append(1)
        self.assertEqual(alone((2, 1)), [((2, 1), (1, 1))])


class Put(unittest.TestCase):
    def test_by_hand(self):
        self.assertEqual(put(drawn(2, 2), alone((0, 0))), [((1, 0), (1, 1))])
        self.assertEqual(put(drawn(2, 2), alone((1, 0))), [((1, 1), (3, 4)), ((2, 0), (1, 4))])
        self.assertEqual(put(((1, 1),), alone((5,))), [((6,), (1, 1))])
        self.assertEqual(put(((1, 2), (1, 2)), [((2, 2), (1, 3)), ((3, 1), (2, 3))]),
                         [((3, 2), (2, 3)), ((4, 1), (1, 3))])

    def test_ranks_with_the_share_nought(self):
        self.assertEqual(put(((0, 1), (1, 1)), [((1, 1), (1, 2)), ((2, 0), (1, 2))]), [((2, 1), (1, 1))])
        self.assertEqual(put(((1, 2), (0, 1), (1, 2)), alone((3, 1, 0))), [((3, 1, 1), (1, 2)), ((4, 1, 0), (1, 2))])
        for n in range(1, 7):
            self.assertEqual(put(one_rank(n, n - 1), alone(tuple(reversed(range(n))))),
                             alone(falling([*range(1, n), 1])))

    def test_against_one_by_one(self):
        chance = random.Random(10)
        for n, balls in ((1, 3), (2, 6), (3, 5), (4, 6), (5, 4), (6, 7)):
            for rule in some_rules(n):
                spread = chance_spread(chance, all_loads(n, balls))
                self.assertEqual(put(rule, spread), slow_put(rule, spread))
                self.assertTrue(is_spread(put(rule, spread)))

    def test_not_as_many_boxes(self):
        for n in range(1, 13):
            for boxes in range(1, 7):
                if n != boxes:
                    assert_refused(self, Unlike, put, drawn(n, 2), alone((1,) * boxes))

    def test_just_sixty_and_one_more(self):
        rule = ((1, 2), (1, 2))
        self.assertEqual(len(put(rule, gaps(range(3, 120, 2), 119))), 60)
        self.assertEqual(put(rule, gaps(range(3, 120, 2), 119)), slow_put(rule, gaps(range(3, 120, 2), 119)))
        assert_refused(self, TooMany, put, rule, gaps(range(1, 120, 2), 119))
        for rank in (0, 1):
            self.assertEqual(len(put(one_rank(2, rank), gaps(range(1, 120, 2), 119))), 60)

    def test_a_wide_spread_that_gets_narrower(self):
        # A ball into the emptier box leads from the gaps 0 and 2 to the gap 1.
        spread = gaps(range(0, 121, 2), 120)
        self.assertEqual(len(spread), 61)
        self.assertEqual(len(put(one_rank(2, 1), spread)), 60)
        self.assertEqual(put(one_rank(2, 1), spread), slow_put(one_rank(2, 1), spread))
        assert_refused(self, TooMany, put, one_rank(2, 0), spread)
        assert_refused(self, TooMany, put, one_rank(2, 1), gaps(range(0, 123, 2), 122))

    def test_wide_spreads(self):
        for spread in wide_spreads():
            boxes = len(spread[0][0])
            assert_refused(self, TooMany, put, drawn(boxes, 2), spread)
            assert_refused(self, TooMany, put, one_rank(boxes, 0), spread)
            assert_refused(self, Unlike, put, drawn(boxes + 1, 2), spread)
            assert_refused(self, Unlike, put, drawn(12, 2), spread)

    def test_a_new_list_each_time(self):
        spread = alone((1, 0))
        first = put(drawn(2, 2), spread)
        first.clear()
        self.assertEqual(put(drawn(2, 2), spread), [((1, 1), (3, 4)), ((2, 0), (1, 4))])
        self.assertEqual(spread, [((1, 0), (1, 1))])


class After(unittest.TestCase):
    def test_all_rows_of_drawn_boxes(self):
        for n, balls, many in ((1, 4, 2), (2, 5, 1), (2, 5, 2), (2, 3, 4), (3, 4, 2), (3, 3, 3), (4, 3, 2), (6, 2, 2)):
            wanted = by_rows_of_draws(n, balls, itertools.product(range(n), repeat=many))
            self.assertEqual(after(drawn(n, many), alone((0,) * n), balls), wanted)

    def test_all_rows_of_unlike_boxes(self):
        for n, balls, many in ((2, 5, 1), (2, 5, 2), (3, 5, 2), (4, 4, 2), (4, 4, 3), (6, 3, 4), (6, 2, 6)):
            wanted = by_rows_of_draws(n, balls, itertools.combinations(range(n), many))
            self.assertEqual(after(unlike(n, many), alone((0,) * n), balls), wanted)

    def test_ball_by_ball(self):
        chance = random.Random(11)
        for n, balls, many in ((1, 0, 60), (2, 0, 60), (2, 40, 60), (3, 4, 9), (4, 0, 12), (5, 2, 10), (6, 0, 12)):
            for rule in some_rules(n, 2):
                loads = all_loads(n, balls) if n > 2 else [falling([balls] + [0] * (n - 1))]
                spread = wanted = chance_spread(chance, loads)
                for ball in range(many):
                    wanted = slow_put(rule, wanted)
                    self.assertLessEqual(len(wanted), 60)
                self.assertEqual(after(rule, spread, many), wanted)
                self.assertTrue(is_spread(after(rule, spread, many)))
                assert_plain(self, after(rule, spread, many))

    def test_each_number_of_balls(self):
        wanted = alone((1, 0))
        for many in range(61):
            self.assertEqual(after(drawn(2, 2), alone((1, 0)), many), wanted)
            wanted = slow_put(drawn(2, 2), wanted)

    def test_of_none_a_new_list_of_the_same(self):
        for spread in [alone((0,)), alone((2, 1)), [((1, 1), (1, 3)), ((2, 0), (2, 3))], *wide_spreads()]:
            boxes = len(spread[0][0])
            kept = list(spread)
            answer = after(drawn(boxes, 2), spread, 0)
            self.assertEqual(answer, spread)
            self.assertIsNot(answer, spread)
            answer.clear()
            self.assertEqual(spread, kept)
            self.assertEqual(after(drawn(boxes, 2), spread, 0), kept)

    def test_not_as_many_boxes(self):
        for many in (0, 1, 5, 60):
            for n in range(1, 13):
                for boxes in range(1, 7):
                    if n != boxes:
                        assert_refused(self, Unlike, after, drawn(n, 2), alone((0,) * boxes), many)

    def test_too_many(self):
        # Of 12 balls in six boxes there are 58 loads, of 13 balls 71.
        self.assertEqual(len(after(drawn(6, 1), alone((0,) * 6), 12)), 58)
        for many in (13, 14, 60):
            assert_refused(self, TooMany, after, drawn(6, 1), alone((0,) * 6), many)
            assert_refused(self, Unlike, after, drawn(7, 1), alone((0,) * 6), many)
        for n in range(3, 7):
            spread, many = alone((0,) * n), 0
            while len(spread) <= 60:
                self.assertEqual(after(drawn(n, 1), alone((0,) * n), many), spread)
                spread, many = slow_put(drawn(n, 1), spread), many + 1
            assert_refused(self, TooMany, after, drawn(n, 1), alone((0,) * n), many)

    def test_too_many_on_the_way(self):
        spread = gaps(range(0, 123, 2), 122)
        wanted = spread
        for ball in range(3):
            wanted = slow_put(one_rank(2, 1), wanted)
        self.assertEqual(len(wanted), 60)
        for many in (1, 2, 3, 4):
            assert_refused(self, TooMany, after, one_rank(2, 1), spread, many)
            assert_refused(self, Unlike, after, one_rank(3, 1), spread, many)

    def test_long_numbers(self):
        rule = long_rule(2, 1900)
        wanted = alone((3, 1))
        for ball in range(3):
            wanted = slow_put(rule, wanted)
        self.assertEqual(after(rule, alone((3, 1)), 3), wanted)
        # Sixty balls with so long a bottom: shares of thirty thousand figures.
        long = after(long_rule(2, 500), alone((3, 1)), 60)
        self.assertEqual([load for load, share in long], [(32 + at, 32 - at) for at in range(32)])
        self.assertTrue(sum(Fraction(*share) for load, share in long) == 1)

    def test_told_rules(self):
        rule = mixed((7, 999), drawn(4, 4), unlike(4, 3))
        self.assertGreater(max(bottom for top, bottom in rule), 1000)
        wanted = alone((2, 1, 1, 0))
        for ball in range(8):
            wanted = slow_put(rule, wanted)
        self.assertEqual(after(rule, alone((2, 1, 1, 0)), 8), wanted)

    def test_nothing_is_changed(self):
        spread = [((1, 1), (1, 3)), ((2, 0), (2, 3))]
        after(drawn(2, 2), spread, 5)
        put(drawn(2, 2), spread)
        leave(spread)
        self.assertEqual(spread, [((1, 1), (1, 3)), ((2, 0), (2, 3))])

    def test_later_changes_change_no_answer(self):
        spread = [((2, 1), (1, 3)), ((3, 0), (2, 3))]
        deeds = (lambda: after(drawn(2, 2), spread, 2), lambda: put(drawn(2, 2), spread), lambda: leave(spread))
        kept = [deed() for deed in deeds]
        shown = repr(kept)
        spread[:] = [((2, 1), (1, 1))]
        for answer, deed in zip(kept, deeds):
            self.assertNotEqual(deed(), answer)
            deed().append(None)
        self.assertEqual(repr(kept), shown)


class Leave(unittest.TestCase):
    def test_by_hand(self):
        self.assertEqual(leave(alone((1, 0))), [((0, 0), (1, 1))])
        self.assertEqual(leave(alone((3, 1))), [((2, 1), (3, 4)), ((3, 0), (1, 4))])
        self.assertEqual(leave(alone((2, 2))), [((2, 1), (1, 1))])
        self.assertEqual(leave([((1, 1), (1, 2)), ((2, 0), (1, 2))]), [((1, 0), (1, 1))])
        self.assertEqual(leave(alone((40,))), [((39,), (1, 1))])

    def test_ball_by_ball(self):
        chance = random.Random(12)
        for n, balls in ((1, 1), (1, 9), (2, 8), (3, 7), (4, 12), (5, 9), (6, 12)):
            for turn in range(3):
                loads = all_loads(n, balls)
                spread = chance_spread(chance, chance.sample(loads, chance.randrange(1, len(loads) + 1)))
                self.assertEqual(leave(spread), slow_leave(spread))
                self.assertTrue(is_spread(leave(spread)))
                assert_plain(self, leave(spread))

    def test_wide_spreads_are_never_too_many(self):
        for spread in wide_spreads():
            self.assertEqual(leave(spread), slow_leave(spread))

    def test_more_than_sixty_behind_it(self):
        loads = [load for load in itertools.product(range(41), repeat=3) if falling(load) == load and sum(load) == 40]
        spread = chance_spread(random.Random(13), random.Random(13).sample(loads, 60))
        self.assertGreater(len(leave(spread)), 60)
        self.assertEqual(leave(spread), slow_leave(spread))

    def test_no_ball(self):
        for n in range(1, 7):
            assert_refused(self, NoBall, leave, alone((0,) * n))

    def test_back_to_nothing(self):
        spread = after(drawn(3, 2), alone((0, 0, 0)), 5)
        for ball in range(5):
            spread = leave(spread)
        self.assertEqual(spread, alone((0, 0, 0)))

    def test_a_new_list_each_time(self):
        first = leave(alone((3, 1)))
        first.clear()
        self.assertEqual(leave(alone((3, 1))), [((2, 1), (3, 4)), ((3, 0), (1, 4))])


if __name__ == "__main__":
    unittest.main()
