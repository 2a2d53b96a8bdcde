import random
import unittest
from fractions import Fraction

from emptierbox.beside import fuller_at
from emptierbox.errors import Unlike
from emptierbox.pairings import lets_pairing, pairing
from emptierbox.rules import drawn, mixed, unlike
from emptierbox.shares import is_share
from tests.things import anything, assert_plain, assert_refused, chance_rule, long_rule, one_rank, some_rules, told

ONE, OTHER = ((1, 4), (3, 4)), ((1, 2), (1, 2))
GOOD = (((1, 4), (0, 1)), ((1, 4), (1, 2)))


def pairs():
    chance = random.Random(17)
    for n in range(1, 13):
        for one in some_rules(n, 2):
            for other in some_rules(n, 2):
                yield one, other
        for turn in range(20):
            yield chance_rule(chance, n, 3), chance_rule(chance, n, 3)
        for many in range(1, 4):
            yield drawn(n, many + 1), drawn(n, many)
            yield unlike(n, min(n, many)), drawn(n, min(n, many))


def fits(one, other, thing):
    """By the words of the document, of a square of shares."""
    n = len(one)
    rows = [sum(Fraction(*share) for share in row) for row in thing]
    columns = [sum(Fraction(*thing[i][j]) for i in range(n)) for j in range(n)]
    return (rows == [Fraction(*share) for share in one] and columns == [Fraction(*share) for share in other]
            and all(share[0] >= 0 for row in thing for share in row)
            and all(thing[i][j] == (0, 1) for i in range(n) for j in range(n) if i < j))


class Pairing(unittest.TestCase):
    def test_by_hand(self):
        self.assertEqual(pairing(((1, 1),), ((1, 1),)), (((1, 1),),))
        self.assertEqual(pairing(ONE, OTHER), GOOD)
        self.assertIsNone(pairing(OTHER, ONE))
        self.assertEqual(pairing(one_rank(2, 1), one_rank(2, 0)), (((0, 1), (0, 1)), ((1, 1), (0, 1))))

    def test_all_pairs(self):
        paired = 0
        for one, other in pairs():
            answer = pairing(one, other)
            if fuller_at(one, other) is not None:
                self.assertIsNone(answer)
                continue
            paired += 1
            assert_plain(self, answer)
            self.assertIs(type(answer), tuple)
            self.assertEqual({type(row) for row in answer}, {tuple})
            self.assertEqual([len(row) for row in answer], [len(one)] * len(one))
            self.assertTrue(all(is_share(share) for row in answer for share in row))
            self.assertTrue(fits(one, other, answer))
            self.assertIs(lets_pairing(one, other, answer), True)
        self.assertGreater(paired, 100)

    def test_of_itself(self):
        for one, other in pairs():
            self.assertTrue(fits(one, one, pairing(one, one)))

    def test_two_thousand_figures(self):
        one, other = long_rule(4, 1900), one_rank(4, 0)
        self.assertTrue(fits(one, other, pairing(one, other)))
        between = mixed((1, 3), one, long_rule(4, 1800))
        self.assertIs(lets_pairing(between, other, pairing(between, other)), True)

    def test_not_as_many_boxes(self):
        for n in range(1, 13):
            for boxes in range(1, 13):
                if n != boxes:
                    assert_refused(self, Unlike, pairing, one_rank(n, 0), drawn(boxes, 2))


class LetsPairing(unittest.TestCase):
    def test_by_hand(self):
        self.assertIs(lets_pairing(ONE, OTHER, GOOD), True)
        self.assertIs(lets_pairing(((1, 1),), ((1, 1),), (((1, 1),),)), True)

    def test_other_pairings_of_the_same_rules(self):
        rule = ((1, 3), (1, 3), (1, 3))
        same = tuple(tuple((1, 3) if i == j else (0, 1) for j in range(3)) for i in range(3))
        self.assertIs(lets_pairing(rule, rule, same), True)
        one, other = ((0, 1), (1, 2), (1, 2)), ((1, 2), (1, 2), (0, 1))
        for s in (Fraction(0), Fraction(1, 7), Fraction(1, 2)):
            row = [told(s), told(Fraction(1, 2) - s)]
            thing = (((0, 1), (0, 1), (0, 1)), (row[0], row[1], (0, 1)), (row[1], row[0], (0, 1)))
            self.assertIs(lets_pairing(one, other, thing), True)
        # As much lies in each row and column, but one part is below nought.
        thing = (((0, 1), (0, 1), (0, 1)), ((-1, 2), (1, 1), (0, 1)), ((1, 1), (-1, 2), (0, 1)))
        self.assertIs(lets_pairing(one, other, thing), False)

    def test_nought_above_the_middle(self):
        even = ((1, 2), (1, 2))
        self.assertIs(lets_pairing(even, even, (((1, 2), (0, 1)), ((0, 1), (1, 2)))), True)
        self.assertIs(lets_pairing(even, even, (((1, 4), (1, 4)), ((1, 4), (1, 4)))), False)
        self.assertIs(lets_pairing(even, even, (((0, 1), (1, 2)), ((1, 2), (0, 1)))), False)
        for n in range(2, 13):
            rule = drawn(n, 1)
            for i in range(n):
                for j in range(i, n):
                    places = list(range(n))
                    places[i], places[j] = j, i
                    thing = tuple(tuple((int(place == at), n if place == at else 1) for at in range(n))
                                  for place in places)
                    # Where two ranks are exchanged, one share lies above the middle.
                    self.assertIs(lets_pairing(rule, rule, thing), i == j)

    def test_exchanged(self):
        turned = tuple(zip(*GOOD))
        self.assertIs(lets_pairing(ONE, OTHER, turned), False)
        self.assertIs(lets_pairing(OTHER, ONE, turned), False)
        self.assertIs(lets_pairing(OTHER, ONE, GOOD), False)
        self.assertIs(lets_pairing(ONE, OTHER, GOOD[::-1]), False)
        self.assertIs(lets_pairing(ONE, ONE, GOOD), False)
        self.assertIs(lets_pairing(OTHER, OTHER, GOOD), False)

    def test_each_share_spoilt(self):
        for one, other in pairs():
            answer = pairing(one, other)
            if answer is None or len(one) > 5:
                continue
            for i in range(len(one)):
                for j in range(len(one)):
                    share = Fraction(*answer[i][j])
                    for spoilt in (told(2 * share), told(share + Fraction(1, 9)), told(share - Fraction(1, 9)),
                                   told(-share), (0, 1), [*answer[i][j]], (2 * share.numerator, 2 * share.denominator),
                                   None, True, (), share.numerator, str(share)):
                        if spoilt == answer[i][j]:
                            continue
                        rows = [list(row) for row in answer]
                        rows[i][j] = spoilt
                        self.assertIs(lets_pairing(one, other, tuple(tuple(row) for row in rows)), False)

    def test_rows_and_columns_more_and_less(self):
        for one, other in pairs():
            good = pairing(one, other)
            if good is None:
                continue
            n = len(one)
            for thing in (good[:-1], good[1:], good + (((0, 1),) * n,), good + (((0, 1),) * (n + 1),), good + ((),),
                          tuple(row + ((0, 1),) for row in good), tuple(row[:-1] for row in good),
                          good[:-1] + (good[-1] + ((0, 1),),), good[:-1] + (good[-1][:-1],)):
                self.assertIs(lets_pairing(one, other, thing), False)

    def test_other_kinds(self):
        for thing in [list(GOOD), tuple(list(row) for row in GOOD), [list(row) for row in GOOD], dict(enumerate(GOOD)),
                      (GOOD,), [GOOD], str(GOOD), GOOD[0], (GOOD[0], None), (GOOD[0], list(GOOD[1])), (None, None),
                      (((1, 4), (False, 1)), ((1, 4), (1, 2))), (((1, 4), (0, True)), ((1, 4), (1, 2))),
                      (((1, 4), 0), ((1, 4), (1, 2)))]:
            self.assertIs(lets_pairing(ONE, OTHER, thing), False)

    def test_anything(self):
        for one, other in ((ONE, OTHER), (((1, 1),), ((1, 1),)), (drawn(12, 2), drawn(12, 1)), (OTHER, ONE)):
            for thing in anything():
                shown = repr(thing)
                self.assertIs(lets_pairing(one, other, thing), False, shown[:60])
                self.assertEqual(repr(thing), shown)

    def test_not_as_many_boxes_goes_ahead(self):
        for n in range(1, 13):
            for thing in (GOOD, pairing(drawn(n, 2), drawn(n, 1))):
                for boxes in (n - 1, n + 1):
                    if 1 <= boxes <= 12:
                        assert_refused(self, Unlike, lets_pairing, drawn(n, 2), drawn(boxes, 2), thing)
        for thing in anything():
            assert_refused(self, Unlike, lets_pairing, ONE, ((1, 1),), thing)


if __name__ == "__main__":
    unittest.main()
