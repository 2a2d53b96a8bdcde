import itertools
import random
import unittest
from fractions import Fraction

from emptierbox.errors import TooMany, Unlike
from emptierbox.held import held
from emptierbox.heldcheck import lets_joint, lets_set
from emptierbox.joints import is_joint, parts, put_both
from emptierbox.loads import all_loads
from emptierbox.means import first_mean, fullest_share, mean
from emptierbox.pairings import pairing
from emptierbox.rules import drawn, mixed, unlike
from emptierbox.shares import is_less
from emptierbox.spreads import after, alone, is_spread, put
from tests.test_joints import all_pairs, chance_joint, no_fuller, slow_parts
from tests.things import anything, assert_plain, assert_refused, chance_rule, chance_spread, long_rule, told

UNLIKE = [((1,), (1, 0)), ((2, 1), (2, 0)), ((0,), (1,)), ((2, 2), (2, 1, 1)), ((0, 0), (0, 0, 0)), ((3, 0, 0), (3,))]


def share_of(spread, loads):
    return sum((Fraction(*share) for load, share in spread if load in loads), Fraction(0))


def shows(first, second, loads):
    """Whether a rising list of loads of either spread is such a set, by the words of the document."""
    either = {load for load, share in first + second}
    if any(no_fuller(one, load) and load not in loads for one in loads for load in either):
        return False
    return share_of(first, loads) > share_of(second, loads)


def all_lists(first, second):
    either = sorted({load for load, share in first + second})
    for many in range(len(either) + 1):
        for loads in itertools.combinations(either, many):
            yield list(loads)


def small_pairs(most=3):
    """Two small spreads alike in kind, so small that all sets can be gone through."""
    chance = random.Random(19)
    for n, balls in ((1, 0), (1, 4), (2, 4), (2, 7), (3, 5), (3, 6), (4, 6), (6, 5)):
        loads = all_loads(n, balls)
        for turn in range(25):
            some = [chance.sample(loads, chance.randrange(1, min(len(loads), most + 1) + 1)) for at in (0, 1)]
            yield chance_spread(chance, some[0]), chance_spread(chance, some[1])
    for n, balls in ((2, 6), (3, 5), (3, 6), (4, 6)):
        for turn in range(10):
            yield slow_parts(chance_joint(chance, chance.sample(all_pairs(n, balls), 4)))


def wide_pairs():
    """Two spreads of up to 24 loads."""
    chance = random.Random(20)
    for n, balls in ((3, 12), (4, 9), (4, 10), (5, 8), (6, 8), (6, 11)):
        loads = all_loads(n, balls)
        for turn in range(4):
            some = [chance.sample(loads, min(24, len(loads))) for at in (0, 1)]
            yield chance_spread(chance, some[0]), chance_spread(chance, some[1])
        pairs = all_pairs(n, balls)
        for turn in range(4):
            first, second = slow_parts(chance_joint(chance, chance.sample(pairs, 26)))
            if len(first) <= 24 and len(second) <= 24:
                yield first, second
    for n, balls in ((2, 12), (3, 9), (4, 7), (5, 7)):
        yield after(drawn(n, 2), alone((0,) * n), balls), after(drawn(n, 1), alone((0,) * n), balls)
        yield after(drawn(n, 1), alone((0,) * n), balls), after(drawn(n, 2), alone((0,) * n), balls)
        yield after(unlike(n, 2), alone((0,) * n), balls), after(drawn(n, 2), alone((0,) * n), balls)


class Held(unittest.TestCase):
    def check(self, first, second):
        shown = repr((first, second))
        answer = held(first, second)
        self.assertEqual(repr((first, second)), shown)
        assert_plain(self, answer)
        self.assertIs(type(answer), tuple)
        self.assertEqual(len(answer), 2)
        word, paper = answer
        if word == "joint":
            self.assertTrue(is_joint(paper))
            self.assertEqual(slow_parts(paper), (first, second))
            self.assertIs(lets_joint(first, second, paper), True)
            self.assertIs(lets_set(first, second, paper), False)
        else:
            self.assertEqual(word, "set")
            self.assertIs(type(paper), list)
            self.assertEqual(paper, sorted(set(paper)))
            self.assertLessEqual(set(paper), {load for load, share in first + second})
            self.assertTrue(shows(first, second, paper))
            self.assertIs(lets_set(first, second, paper), True)
            self.assertIs(lets_joint(first, second, paper), False)
        return word

    def test_by_hand(self):
        self.assertEqual(held(alone((1, 1)), alone((2, 0))), ("joint", [((1, 1), (2, 0), (1, 1))]))
        self.assertEqual(held(alone((2, 0)), alone((1, 1))), ("set", [(2, 0)]))
        self.assertEqual(held(alone((0,)), alone((0,))), ("joint", [((0,), (0,), (1, 1))]))
        self.assertEqual(held([((1, 1), (1, 2)), ((2, 0), (1, 2))], alone((2, 0))),
                         ("joint", [((1, 1), (2, 0), (1, 2)), ((2, 0), (2, 0), (1, 2))]))

    def test_spreads_of_one_load(self):
        for n, balls in ((1, 3), (2, 5), (3, 6), (4, 6), (6, 6)):
            for one in all_loads(n, balls):
                for other in all_loads(n, balls):
                    word = self.check(alone(one), alone(other))
                    self.assertEqual(word, "joint" if no_fuller(one, other) else "set")

    def test_never_both(self):
        words = []
        for first, second in small_pairs():
            words.append(self.check(first, second))
            found = any(shows(first, second, loads) for loads in all_lists(first, second))
            self.assertEqual(words[-1], "set" if found else "joint")
        self.assertGreater(words.count("joint"), 60)
        self.assertGreater(words.count("set"), 60)

    def test_wide_spreads(self):
        words = [self.check(first, second) for first, second in wide_pairs()]
        self.assertGreater(words.count("joint"), 15)
        self.assertGreater(words.count("set"), 15)

    def test_the_same_spread_twice(self):
        for first, second in [*small_pairs(), *wide_pairs()]:
            self.assertEqual(self.check(first, first), "joint")

    def test_parts_of_joint_spreads(self):
        chance = random.Random(21)
        for n, balls in ((2, 12), (3, 9), (4, 8), (6, 8)):
            for turn in range(10):
                first, second = slow_parts(chance_joint(chance, chance.sample(all_pairs(n, balls), 12)))
                if len(first) <= 24 and len(second) <= 24:
                    self.assertEqual(self.check(first, second), "joint")
                    if first != second:
                        self.assertEqual(self.check(second, first), "set")

    def test_what_was_given_at_first_is_taken_back(self):
        # (2, 2, 2) must leave (3, 3, 0) to (3, 3, 0), which goes nowhere else.
        for top, bottom in ((1, 2), (1, 3), (2, 5), (2, 3), (9, 10)):
            rest = (bottom - top, bottom)
            first = [((2, 2, 2), rest), ((3, 3, 0), (top, bottom))]
            second = [((3, 3, 0), (top, bottom)), ((4, 1, 1), rest)]
            wanted = [((2, 2, 2), (4, 1, 1), rest), ((3, 3, 0), (3, 3, 0), (top, bottom))]
            self.assertEqual(held(first, second), ("joint", wanted))
            self.assertEqual(self.check(first, second), "joint")
            self.assertEqual(self.check(second, first), "set")

    def test_each_load_a_step_further(self):
        loads = [(8 + at, 8 - at) for at in range(9)]
        for k in range(1, 8):
            first = [(load, (1, k)) for load in loads[:k]]
            second = [(load, (1, k)) for load in loads[1:k + 1]]
            self.assertEqual(self.check(first, second), "joint")
            self.assertEqual(self.check(second, first), "set")

    def test_a_great_common_bottom(self):
        chance = random.Random(22)
        loads = all_loads(6, 11)
        for turn in range(3):
            spreads = []
            for at in (0, 1):
                some = sorted(chance.sample(loads, 24))
                bottoms = [chance.randrange(10 ** 29, 10 ** 30) for load in some[:12]]
                tops = [chance.randrange(1, bottom) for bottom in bottoms]
                shares = [Fraction(top, 12 * bottom) for top, bottom in zip(tops, bottoms)]
                shares += [Fraction(1, 12) - share for share in shares]
                spreads.append([(load, told(share)) for load, share in zip(some, shares)])
            self.assertTrue(is_spread(spreads[0]))
            self.check(*spreads)
            self.assertEqual(self.check(spreads[0], spreads[0]), "joint")
        rule = long_rule(3, 1900)
        first, second = put(rule, alone((3, 1, 0))), put(drawn(3, 1), alone((3, 1, 0)))
        self.check(first, second)
        self.check(second, first)

    def test_tiny_shares(self):
        tiny = (1, 10 ** 30)
        first = [((2, 2), told(1 - Fraction(*tiny))), ((3, 1), tiny)]
        self.assertEqual(self.check(first, alone((2, 2))), "set")
        self.assertEqual(held(first, alone((2, 2))), ("set", [(3, 1)]))
        self.assertEqual(self.check(alone((2, 2)), first), "joint")
        self.assertEqual(self.check(first, [((2, 2), tiny), ((3, 1), told(1 - Fraction(*tiny)))]), "joint")

    def test_unlike(self):
        for one, other in UNLIKE:
            assert_refused(self, Unlike, held, alone(one), alone(other))

    def test_too_many(self):
        loads = all_loads(6, 10)
        chance = random.Random(23)
        wide, just = chance_spread(chance, loads[:25]), chance_spread(chance, loads[:24])
        self.check(just, chance_spread(chance, loads[-24:]))
        for first, second in ((wide, just), (just, wide), (wide, wide), (wide, alone(loads[0])),
                              (alone(loads[0]), wide)):
            assert_refused(self, TooMany, held, first, second)
        for one in (alone((10,)), alone((1,) * 6), chance_spread(chance, all_loads(5, 11))):
            assert_refused(self, Unlike, held, wide, one)
            assert_refused(self, Unlike, held, one, wide)

    def test_a_new_list_each_time(self):
        for first, second in ((alone((1, 1)), alone((2, 0))), (alone((2, 0)), alone((1, 1)))):
            answer = held(first, second)
            kept = list(answer[1])
            answer[1].clear()
            self.assertEqual(held(first, second)[1], kept)


    def test_more_boxes_are_never_fuller(self):
        for n, balls in ((2, 9), (3, 7), (4, 6), (6, 5)):
            start = alone((1,) + (0,) * (n - 1))
            rules = [unlike(n, n), unlike(n, 2), drawn(n, 2), mixed((1, 3), drawn(n, 2), drawn(n, 1)), drawn(n, 1)]
            spreads = [after(rule, start, balls) for rule in rules]
            for at, second in enumerate(spreads):
                for first in spreads[:at + 1]:
                    self.assertEqual(self.check(first, second), "joint")
                    self.assertEqual(self.check(second, first), "joint" if first == second else "set")


class LetsJoint(unittest.TestCase):
    def test_by_hand(self):
        first, second = [((1, 1), (1, 2)), ((2, 0), (1, 2))], [((1, 1), (1, 3)), ((2, 0), (2, 3))]
        good = [((1, 1), (1, 1), (1, 3)), ((1, 1), (2, 0), (1, 6)), ((2, 0), (2, 0), (1, 2))]
        self.assertIs(lets_joint(first, second, good), True)
        self.assertIs(lets_joint(second, first, good), False)
        self.assertIs(lets_joint(first, first, good), False)
        self.assertIs(lets_joint(second, second, good), False)

    def test_any_joint_of_its_parts(self):
        chance = random.Random(24)
        for n, balls in ((1, 2), (2, 6), (3, 6), (4, 7), (6, 6)):
            pairs = all_pairs(n, balls)
            for turn in range(8):
                joint = chance_joint(chance, chance.sample(pairs, chance.randrange(1, len(pairs) + 1)))
                self.assertIs(lets_joint(*slow_parts(joint), joint), True)

    def test_spreads_of_more_than_twenty_four_loads(self):
        joint = chance_joint(random.Random(25), all_pairs(6, 10))
        first, second = slow_parts(joint)
        self.assertGreater(len(first), 24)
        self.assertIs(lets_joint(first, second, joint), True)
        self.assertIs(lets_joint(second, first, joint), False)
        self.assertIs(lets_set(second, first, [first[-1][0]]), share_of(second, [first[-1][0]])
                      > share_of(first, [first[-1][0]]))

    def test_forged(self):
        for first, second in small_pairs():
            word, good = held(first, second)
            if word == "joint":
                for forged in self.forge(good):
                    self.assertIs(lets_joint(first, second, forged), False)
                self.assertIs(lets_joint(first, second, list(good)), True)

    def forge(self, good):
        yield tuple(good)
        yield [list(row) for row in good]
        yield [*good, good[-1]]
        yield [good[0], *good]
        yield [(other, one, share) for one, other, share in good if one != other] or None
        for at, (one, other, share) in enumerate(good):
            yield good[:at] + good[at + 1:]
            top, bottom = share
            for spoilt in ((0, 1), (-top, bottom), (2 * top, 2 * bottom), told(Fraction(top, 2 * bottom)),
                           told(Fraction(top + 1, bottom)), list(share), None, 1, True):
                if spoilt != share:
                    yield good[:at] + [(one, other, spoilt)] + good[at + 1:]
            yield good[:at] + [(one, other)] + good[at + 1:]
            yield good[:at] + [(list(one), other, share)] + good[at + 1:]
            yield good[:at] + [(one, list(other), share)] + good[at + 1:]
            yield good[:at] + [((*one, 0), (*other, 0), share)] + good[at + 1:]
            yield good[:at] + [((one[0] + 1, *one[1:]), (other[0] + 1, *other[1:]), share)] + good[at + 1:]
        if len(good) > 1:
            yield good[::-1]
            yield [good[1], good[0], *good[2:]]

    def test_together_one_but_other_parts(self):
        chance = random.Random(26)
        spoilt = 0
        for first, second in small_pairs():
            word, good = held(first, second)
            if word == "joint" and len(good) > 1:
                shares = [share for one, other, share in good]
                chance.shuffle(shares)
                forged = [(one, other, share) for (one, other, old), share in zip(good, shares)]
                self.assertIs(lets_joint(first, second, forged), slow_parts(forged) == (first, second))
                spoilt += forged != good
        self.assertGreater(spoilt, 20)

    def test_the_parts_are_right_but_one_is_fuller(self):
        first = second = [((1, 1), (1, 2)), ((2, 0), (1, 2))]
        forged = [((1, 1), (2, 0), (1, 2)), ((2, 0), (1, 1), (1, 2))]
        self.assertEqual(slow_parts(forged), (first, second))
        self.assertIs(lets_joint(first, second, forged), False)

    def test_anything(self):
        for first, second in ((alone((0,)), alone((0,))), (alone((1, 1)), alone((2, 0))), next(wide_pairs())):
            for thing in [*anything(), [], first, second]:
                shown = repr(thing)
                self.assertIs(lets_joint(first, second, thing), False, shown[:60])
                self.assertEqual(repr(thing), shown)

    def test_many_long_numbers(self):
        chance = random.Random(27)
        loads = [(300 + at, 300 - at) for at in range(40)]
        pairs = [(one, other) for one in loads for other in loads if no_fuller(one, other)][:700]
        shares = []
        for at in range(350):
            bottom = chance.randrange(10 ** 190, 10 ** 194)
            half = Fraction(chance.randrange(1, bottom), bottom)
            shares += [told(half / 350), told((1 - half) / 350)]
        thing = [(one, other, share) for (one, other), share in zip(pairs, shares)]
        self.assertTrue(is_joint(thing))
        self.assertIs(lets_joint(alone(loads[0]), alone(loads[0]), thing), False)
        self.assertIs(lets_set(alone(loads[0]), alone(loads[0]), thing), False)

    def test_unlike_goes_ahead(self):
        for one, other in UNLIKE:
            for thing in [[], [(one, other, (1, 1))], [(one, one, (1, 1))], [one], [other], *anything()]:
                assert_refused(self, Unlike, lets_joint, alone(one), alone(other), thing)
                assert_refused(self, Unlike, lets_set, alone(one), alone(other), thing)


class LetsSet(unittest.TestCase):
    def test_by_hand(self):
        self.assertIs(lets_set(alone((2, 0)), alone((1, 1)), [(2, 0)]), True)
        self.assertIs(lets_set(alone((2, 0)), alone((1, 1)), [(1, 1), (2, 0)]), False)
        self.assertIs(lets_set(alone((2, 0)), alone((1, 1)), []), False)
        self.assertIs(lets_set(alone((1, 1)), alone((2, 0)), [(1, 1)]), False)
        self.assertIs(lets_set(alone((1, 1)), alone((2, 0)), [(2, 0)]), False)

    def test_all_lists(self):
        let = 0
        for first, second in small_pairs(2):
            for loads in all_lists(first, second):
                wanted = shows(first, second, loads)
                let += wanted
                self.assertIs(lets_set(first, second, loads), wanted)
                self.assertIs(lets_set(first, second, tuple(loads)), False)
                if len(loads) > 1:
                    self.assertIs(lets_set(first, second, loads[::-1]), False)
                if loads:
                    self.assertIs(lets_set(first, second, [loads[0], *loads]), False)
        self.assertGreater(let, 60)

    def test_a_load_of_the_first_spread_left_out(self):
        # (3, 1) is in the set, so (4, 0), a load of the first spread, must be there, too.
        first, second = [((3, 1), (3, 4)), ((4, 0), (1, 4))], [((2, 2), (1, 1))]
        self.assertIs(lets_set(first, second, [(3, 1), (4, 0)]), True)
        self.assertIs(lets_set(first, second, [(3, 1)]), False)
        self.assertIs(lets_set(first, second, [(4, 0)]), True)

    def test_a_load_of_the_second_spread_left_out(self):
        first, second = [((3, 1), (3, 4)), ((4, 0), (1, 4))], [((2, 2), (1, 2)), ((4, 0), (1, 2))]
        self.assertIs(lets_set(first, second, [(3, 1), (4, 0)]), True)
        self.assertIs(lets_set(first, second, [(3, 1)]), False)
        self.assertIs(lets_set(first, second, [(4, 0)]), False)

    def test_the_shares_must_not_be_the_same(self):
        spread = [((1, 1), (1, 2)), ((2, 0), (1, 2))]
        for loads in ([], [(2, 0)], [(1, 1), (2, 0)]):
            self.assertIs(lets_set(spread, spread, loads), False)

    def test_loads_of_neither_spread(self):
        first, second = alone((3, 1)), alone((2, 2))
        self.assertIs(lets_set(first, second, [(3, 1)]), True)
        self.assertIs(lets_set(first, second, [(3, 1), (4, 0)]), False)
        self.assertIs(lets_set(first, second, [(3, 1), (3, 1, 0)]), False)
        self.assertIs(lets_set(first, second, [(3, 1), (5, 0)]), False)
        self.assertIs(lets_set(first, second, [(1,), (3, 1)]), False)

    def test_forged(self):
        for first, second in small_pairs():
            word, good = held(first, second)
            if word == "set":
                for thing in (tuple(good), [list(load) for load in good], good + [None], good + [()], [None, *good],
                              [good], {load: True for load in good}, good + [good[-1]],
                              [(load, (1, 1)) for load in good],
                              [tuple(map(str, load)) for load in good], str(good), good + [(10 ** 199,)]):
                    self.assertIs(lets_set(first, second, thing), False)
        self.assertIs(lets_set(alone((1, 0, 0)), alone((1, 0, 0)), [(1, 0, 0)]), False)
        self.assertIs(lets_set(alone((2, 0)), alone((1, 1)), [(2, False)]), False)

    def test_anything(self):
        for first, second in ((alone((0,)), alone((0,))), (alone((2, 0)), alone((1, 1))), next(wide_pairs())):
            for thing in [*anything(), [], first, second]:
                shown = repr(thing)
                self.assertIs(lets_set(first, second, thing), False, shown[:60])
                self.assertEqual(repr(thing), shown)


class OrderedMeans(unittest.TestCase):
    def check(self, first, second):
        boxes, balls = len(first[0][0]), sum(first[0][0])
        for word in ("fullest", "gap", "squares"):
            self.assertFalse(is_less(mean(second, word), mean(first, word)))
        self.assertFalse(is_less(mean(first, "emptiest"), mean(second, "emptiest")))
        for k in range(boxes + 1):
            self.assertFalse(is_less(first_mean(second, k), first_mean(first, k)))
        for m in range(-1, balls + 2):
            self.assertFalse(is_less(fullest_share(second, m), fullest_share(first, m)))

    def test_whatever_joint_is_let_by(self):
        chance = random.Random(28)
        for n, balls in ((1, 4), (2, 8), (3, 8), (4, 8), (6, 7)):
            pairs = all_pairs(n, balls)
            for turn in range(10):
                joint = chance_joint(chance, chance.sample(pairs, chance.randrange(1, len(pairs) + 1)))
                first, second = parts(joint)
                self.assertIs(lets_joint(first, second, joint), True)
                self.check(first, second)

    def test_rules_that_are_no_fuller(self):
        chance = random.Random(29)
        let = 0
        for n, balls in ((2, 8), (3, 6), (4, 6)):
            for turn in range(15):
                one, other = chance_rule(chance, n, 4), chance_rule(chance, n, 4)
                paired = pairing(one, other)
                joint = [((0,) * n, (0,) * n, (1, 1))]
                for ball in range(balls if paired else 0):
                    joint = put_both(paired, joint)
                if paired:
                    let += 1
                    first, second = (after(rule, alone((0,) * n), balls) for rule in (one, other))
                    self.assertIs(lets_joint(first, second, joint), True)
                    self.assertEqual(held(first, second)[0], "joint")
                    self.check(first, second)
        self.assertGreater(let, 5)


if __name__ == "__main__":
    unittest.main()
