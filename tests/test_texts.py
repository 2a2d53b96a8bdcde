import random
import unittest
from fractions import Fraction

from emptierbox.errors import NoText
from emptierbox.joints import is_joint, pair_alone, put_both
from emptierbox.loads import all_loads
from emptierbox.nets import is_net, ring, whole_net
from emptierbox.pairings import pairing
from emptierbox.reader import read_joint, read_load, read_net, read_rule, read_share, read_spread
from emptierbox.rules import drawn, mixed, unlike
from emptierbox.spreads import after, alone
from emptierbox.stands import after_on
from emptierbox.steady import steady
from emptierbox.texts import show_joint, show_load, show_net, show_rule, show_share, show_spread
from tests.test_joints import all_pairs, chance_joint
from tests.things import anything, assert_plain, assert_refused, chance_net, chance_rule, chance_spread
from tests.things import chance_stand, long_rule, some_rules, told

READERS = (read_share, read_load, read_rule, read_spread, read_joint, read_net)

# Words that write no whole number.
NO_NUMBERS = ["", "-", "+", "+1", "-0", "+0", "00", "01", "007", "-01", "-007", "--1", "1-", "1.0", "1e3", "0x1", "1_000",
              "1,000", "a", "1a", "a1", "\u0661", "\u00b2", "\uff11", "\u0967\u0968", "-\u0661", " 1", "1 ", "\t1", "1\t",
              "1\r", "\n1", "1\n", "'1'", "(1)", "None", "True", "0b1", "0o7", "1L", "\u22121", "\u00bd"]

# Texts that write no share.
NO_SHARES = NO_NUMBERS + ["/", "1/", "/2", "1/2/3", "1//2", "1/1", "0/1", "-3/1", "1/0", "0/0", "1/-2", "-1/-2", "1/-1",
                          "2/4", "0/5", "-2/4", "6/3", "10/100", "1 / 2", "1 /2", "1/ 2", " 1/2", "1/2 ", "1/02", "01/2",
                          "1/+2", "+1/2", "-0/2", "--1/2", "1/2\n", "\n1/2", "1\\2", "1:2", "1 2", "(1, 2)", "1/2a",
                          "\u0661/\u0662", "1/\u0662", "1/00", "1/2/", "/1/2", "2/2"]


def long_share(figures):
    return told(Fraction(10 ** (figures - 1) + 7, 3 * 10 ** (figures - 1) + 1))


def long_spread(figures):
    share = long_share(figures)
    return [((1, 1), share), ((2, 0), told(1 - Fraction(*share)))]


class Shares(unittest.TestCase):
    def test_by_hand(self):
        for share, text in [((3, 4), "3/4"), ((-2, 1), "-2"), ((0, 1), "0"), ((1, 1), "1"), ((-3, 4), "-3/4"),
                            ((10, 1), "10"), ((7, 10), "7/10"), ((-1, 1000), "-1/1000"), ((100, 7), "100/7")]:
            self.assertEqual(show_share(share), text)
            self.assertEqual(read_share(text), share)
            assert_plain(self, [show_share(share), read_share(text)])

    def test_by_chance(self):
        chance = random.Random(73)
        for figures in (1, 2, 5, 30, 59, 60, 61, 100, 119, 120, 121, 200):
            for turn in range(20):
                top, bottom = chance.randrange(-10 ** figures, 10 ** figures), chance.randrange(1, 10 ** figures)
                share = told(Fraction(top, bottom))
                text = f"{share[0]}/{share[1]}" if share[1] != 1 else f"{share[0]}"
                self.assertEqual(show_share(share), text)
                self.assertEqual(read_share(text), share)

    def test_whole_numbers(self):
        for figures in range(200):
            for number in (10 ** figures, 10 ** figures - 1, 10 ** figures + 1, -10 ** figures):
                self.assertEqual(show_share((number, 1)), str(number))
                self.assertEqual(read_share(str(number)), (number, 1))

    def test_long_numbers(self):
        for figures in (1999, 2000, 2001, 4000, 4299):
            for top in (10 ** (figures - 1), 10 ** figures - 1, 10 ** (figures - 1) + 10 ** 70):
                self.assertEqual(show_share((-top, 1)), str(-top))
                self.assertEqual(read_share(str(-top)), (-top, 1))
        for figures in (2000, 4300, 4301, 6000, 9999):
            share = long_share(figures)
            text = show_share(share)
            self.assertEqual(text, "1" + "0" * (figures - 2) + "7/3" + "0" * (figures - 2) + "1")
            self.assertEqual(read_share(text), share)
        self.assertEqual(show_share((10 ** 20000, 1)), "1" + "0" * 20000)
        self.assertEqual(read_share("-" + "7" * 20000), (-(10 ** 20000 - 1) // 9 * 7, 1))

    def test_refused(self):
        for text in NO_SHARES:
            assert_refused(self, NoText, read_share, text)

    def test_common_measures(self):
        for top in range(-12, 13):
            for bottom in range(-3, 13):
                text = f"{top}/{bottom}"
                if bottom > 1 and Fraction(top, bottom).denominator == bottom:
                    self.assertEqual(read_share(text), (top, bottom))
                else:
                    assert_refused(self, NoText, read_share, text)
        long = 10 ** 39 + 3
        self.assertEqual(read_share(f"{long}/{long + 1}"), (long, long + 1))
        assert_refused(self, NoText, read_share, f"{long * 2}/{long * 3}")


class Loads(unittest.TestCase):
    def test_by_hand(self):
        for load, text in [((0,), "0"), ((3, 1), "3 1"), ((2, 2, 0), "2 2 0"), ((10, 9, 8, 7, 6, 0), "10 9 8 7 6 0"),
                           ((0,) * 6, "0 0 0 0 0 0"), ((10 ** 39, 5), "1" + "0" * 39 + " 5")]:
            self.assertEqual(show_load(load), text)
            self.assertEqual(read_load(text), load)
            assert_plain(self, [show_load(load), read_load(text)])

    def test_of_stands_too(self):
        self.assertEqual(show_load((0, 3, 1)), "0 3 1")
        self.assertEqual(show_load((1, 2, 3, 4, 5, 6)), "1 2 3 4 5 6")
        chance = random.Random(74)
        for n in range(1, 7):
            stand = chance_stand(chance, n, 10 ** 11)
            self.assertEqual(show_load(stand), " ".join(str(number) for number in stand))

    def test_all_loads(self):
        for n in range(1, 7):
            for balls in range(9):
                for load in all_loads(n, balls):
                    self.assertEqual(read_load(show_load(load)), load)

    def test_of_however_many_balls(self):
        for load in [(41,), (40, 1), (10 ** 12, 10 ** 12), (10 ** 30, 0), (10 ** 2000, 10 ** 1999), (10 ** 5000, 0)]:
            self.assertEqual(read_load(show_load(load)), load)

    def test_refused(self):
        for word in NO_NUMBERS:
            for text in [word, f"3 {word}", f"{word} 0", f"3 {word} 0"]:
                assert_refused(self, NoText, read_load, text)
        for text in ["-1", "3 -1", "0 1", "2 1 2", "3 2 1 4", "1 1 1 1 1 1 1", "0 0 0 0 0 0 0", "7 6 5 4 3 2 1", "3  1",
                     " 3 1", "3 1 ", "3 1\n", "\n3 1", "3,1", "3, 1", "(3, 1)", "3\n1", "3\t1", "1/2", "3 1/2", "3/1 1",
                     "3 : 1", "3 | 1", "3 1 : 1", " ", "  ", "3-1", "3.1"]:
            assert_refused(self, NoText, read_load, text)


class Rules(unittest.TestCase):
    def test_by_hand(self):
        for rule, text in [(((1, 1),), "1"), (((1, 2), (1, 2)), "1/2 1/2"), (((0, 1), (1, 3), (2, 3)), "0 1/3 2/3"),
                           (drawn(3, 2), "1/9 1/3 5/9"), (unlike(12, 12), "0 " * 11 + "1")]:
            self.assertEqual(show_rule(rule), text)
            self.assertEqual(read_rule(text), rule)
            assert_plain(self, [show_rule(rule), read_rule(text)])

    def test_read_back(self):
        chance = random.Random(75)
        for n in range(1, 13):
            for rule in some_rules(n) + [drawn(n, 4), unlike(n, n), chance_rule(chance, n, 10 ** 29)]:
                self.assertEqual(read_rule(show_rule(rule)), rule)
        rule = mixed((7, 999), drawn(12, 4), unlike(12, 7))
        self.assertEqual(read_rule(show_rule(rule)), rule)

    def test_long_numbers(self):
        for n, figures in ((2, 1990), (3, 1990), (12, 1900), (2, 5000)):
            rule = long_rule(n, figures)
            self.assertEqual(read_rule(show_rule(rule)), rule)

    def test_refused(self):
        for word in NO_SHARES:
            for text in [word, f"1 {word}", f"{word} 1", f"1/2 {word} 1/2"]:
                assert_refused(self, NoText, read_rule, text)
        for text in ["0", "2", "1/2", "1/2 1/3", "1/2 2/3", "1 1", "1/2 1/2 1/2", "-1 2", "-1/2 3/2", "3/2 -1/2",
                     "0 " * 12 + "1", "1" + " 0" * 12, " ".join(["1/13"] * 13), "1/2  1/2", " 1/2 1/2", "1/2 1/2 ",
                     "1/2 1/2\n", "1/2\n1/2", "1/2, 1/2", "2/4 1/2", "1/1", "1/2 0/1 1/2", "0 0", ""]:
            assert_refused(self, NoText, read_rule, text)
        self.assertEqual(read_rule("0 " * 11 + "1"), unlike(12, 12))
        self.assertEqual(read_rule(" ".join(["1/12"] * 12)), drawn(12, 1))


class Spreads(unittest.TestCase):
    def test_by_hand(self):
        self.assertEqual(show_spread([((0,), (1, 1))]), "0 : 1")
        self.assertEqual(show_spread([((1, 1), (3, 4)), ((2, 0), (1, 4))]), "1 1 : 3/4\n2 0 : 1/4")
        self.assertEqual(read_spread("0 : 1"), [((0,), (1, 1))])
        self.assertEqual(read_spread("1 1 : 3/4\n2 0 : 1/4"), [((1, 1), (3, 4)), ((2, 0), (1, 4))])
        self.assertEqual(show_spread(after_on(ring(2, "dice"), (0, 0), 3)), "1 2 : 1/2\n2 1 : 1/2")

    def test_read_back(self):
        chance = random.Random(76)
        for n, balls in ((1, 0), (1, 40), (2, 9), (3, 7), (4, 6), (5, 5), (6, 12)):
            loads = all_loads(n, balls)
            for turn in range(6):
                spread = chance_spread(chance, chance.sample(loads, chance.randrange(1, len(loads) + 1)))
                self.assertEqual(read_spread(show_spread(spread)), spread)
                assert_plain(self, [show_spread(spread), read_spread(show_spread(spread))])
        for spread in [after(drawn(6, 2), alone((0,) * 6), 12), after(drawn(2, 2), alone((40, 0)), 60),
                       steady(drawn(3, 3), 9), alone((10 ** 39, 1)), after(drawn(1, 1), alone((40,)), 60)]:
            text = show_spread(spread)
            self.assertEqual(read_spread(text), spread)
            self.assertEqual(len(text.split("\n")), len(spread))

    def test_long_numbers(self):
        for figures in (1990, 2000, 5000):
            spread = long_spread(figures)
            self.assertEqual(read_spread(show_spread(spread)), spread)
        spread = after(long_rule(2, 30), alone((2, 1)), 60)
        self.assertGreater(max(share[1] for load, share in spread), 10 ** 1500)
        self.assertEqual(read_spread(show_spread(spread)), spread)

    def test_new_each_time(self):
        first = read_spread("1 1 : 3/4\n2 0 : 1/4")
        first.clear()
        self.assertEqual(read_spread("1 1 : 3/4\n2 0 : 1/4"), [((1, 1), (3, 4)), ((2, 0), (1, 4))])

    def test_signs(self):
        good = "1 1 : 3/4\n2 0 : 1/4"
        for text in ["", "\n", good + "\n", "\n" + good, good.replace("\n", "\n\n"), good.replace("\n", "\r\n"),
                     good.replace(" : ", ": "), good.replace(" : ", " :"), good.replace(" : ", ":"), good + " ",
                     " " + good, good.replace(" : ", "  : "), good.replace(" : ", " :  "), good.replace("1 1", "1  1"),
                     good.replace("/", " / "), good.replace("\n", " \n"), good.replace("\n", "\n "), good + " : 1",
                     good.replace(" : ", " | "), good.replace("\n", " "), "1 1", "1 1 :", "1 1 : ", ": 1", " : 1", ":",
                     "1 1 : 1 : 1", "1 1 1", good.replace("\n", "\x0b"), good.replace("\n", "\x85"), good + "\n\n"]:
            assert_refused(self, NoText, read_spread, text)
        self.assertEqual(len(read_spread(good)), 2)

    def test_what_is_no_spread(self):
        for text in ["2 0 : 1/4\n1 1 : 3/4", "1 1 : 1/2\n1 1 : 1/2", "1 1 : 1/2\n2 1 : 1/2", "1 : 1/2\n1 0 : 1/2",
                     "1 1 : 1/2\n2 0 : 1/3", "1 1 : 1/2", "1 1 : 2/3\n2 0 : 2/3", "1 1 : 1\n2 0 : 0",
                     "1 1 : 0\n2 0 : 1", "1 1 : 3/2\n2 0 : -1/2", "1 1 : -1/2\n2 0 : 3/2", "0 2 : 1", "-1 : 1",
                     "1 1 1 1 1 1 1 : 1", "1 1 : 2/4\n2 0 : 1/2", "1 1 : 1/1", "01 1 : 1", "1 1 : 01", "1 1 : +1",
                     "2 2 : 1/3\n4 0 : 1/3\n3 1 : 1/3", "2 0 : 1/4\n2 0 : 3/4", "1 1 : -1", "1 1 : 2"]:
            assert_refused(self, NoText, read_spread, text)
        for word in NO_SHARES:
            assert_refused(self, NoText, read_spread, f"1 1 : {word}")
        for word in NO_NUMBERS:
            assert_refused(self, NoText, read_spread, f"1 {word} : 1")


class Joints(unittest.TestCase):
    def test_by_hand(self):
        joint = [((1, 1), (1, 1), (1, 2)), ((1, 1), (2, 0), (1, 4)), ((2, 0), (2, 0), (1, 4))]
        text = "1 1 | 1 1 : 1/2\n1 1 | 2 0 : 1/4\n2 0 | 2 0 : 1/4"
        self.assertEqual(show_joint(joint), text)
        self.assertEqual(read_joint(text), joint)
        self.assertEqual(show_joint(pair_alone((0,), (0,))), "0 | 0 : 1")
        self.assertEqual(read_joint("0 | 0 : 1"), pair_alone((0,), (0,)))

    def test_read_back(self):
        chance = random.Random(77)
        for n, balls in ((1, 0), (1, 9), (2, 7), (3, 6), (4, 5), (6, 6)):
            pairs = all_pairs(n, balls)
            for turn in range(4):
                joint = chance_joint(chance, chance.sample(pairs, chance.randrange(1, len(pairs) + 1)))
                self.assertEqual(read_joint(show_joint(joint)), joint)
                assert_plain(self, [show_joint(joint), read_joint(show_joint(joint))])
        joint = pair_alone((0, 0, 0), (0, 0, 0))
        for ball in range(12):
            joint = put_both(pairing(drawn(3, 2), drawn(3, 1)), joint)
        self.assertEqual(read_joint(show_joint(joint)), joint)
        self.assertEqual(read_joint(show_joint(pair_alone((10 ** 39, 0), (10 ** 39, 0)))),
                         pair_alone((10 ** 39, 0), (10 ** 39, 0)))

    def test_long_numbers(self):
        for figures in (2000, 5000):
            share = long_share(figures)
            joint = [((1, 1), (1, 1), share), ((1, 1), (2, 0), told(1 - Fraction(*share)))]
            self.assertTrue(is_joint(joint))
            self.assertEqual(read_joint(show_joint(joint)), joint)

    def test_refused(self):
        good = "1 1 | 1 1 : 1/2\n1 1 | 2 0 : 1/4\n2 0 | 2 0 : 1/4"
        lines = good.split("\n")
        for text in ["", good + "\n", "\n" + good, good.replace("\n", "\n\n"), good.replace(" | ", "|"), good + " ",
                     good.replace(" | ", " |"), good.replace(" | ", "| "), good.replace(" | ", "  | "), " " + good,
                     good.replace(" | ", " |  "), good.replace(" | ", " : "), good.replace(" : ", " | "),
                     good.replace(" : ", ":"), good.replace(" : ", "  : "), good.replace("/", " /"),
                     "\n".join(lines[::-1]), "\n".join(lines[:2]), "\n".join(lines + lines[-1:]), "1 1 : 1", "1 1 | 1 1",
                     "2 0 | 1 1 : 1", "1 1 | 2 1 : 1", "1 1 | 2 : 1", "1 1 | 2 0 0 : 1", "1 1 | 1 1 | 1 1 : 1",
                     "1 1 | 1 1 : 1 : 1", "1 1 | 1 1 : 1/2\n1 1 | 1 1 : 1/2", "1 1 | 1 1 : 0\n1 1 | 2 0 : 1",
                     "1 1 | 1 1 : 3/2\n1 1 | 2 0 : -1/2", "1 1 | 1 1 : 1/2\n2 1 | 2 1 : 1/2",
                     "1 1 | 2 0 : 1/2\n1 1 | 1 1 : 1/2", "1 1 | 1 1 : 2/4\n1 1 | 2 0 : 1/2", "0 2 | 0 2 : 1",
                     "1 1 | 0 2 : 1", "1 1 |  : 1", " | 1 1 : 1", "| : 1", "1 1 | 1 1 : 2"]:
            assert_refused(self, NoText, read_joint, text)
        self.assertEqual(len(read_joint(good)), 3)


class Nets(unittest.TestCase):
    def test_by_hand(self):
        self.assertEqual(show_net(ring(3, "left")), "3 left : 0-1 1-2 2-0")
        self.assertEqual(show_net((1, ((0, 0),), "dice")), "1 dice : 0-0")
        self.assertEqual(read_net("3 left : 0-1 1-2 2-0"), ring(3, "left"))
        self.assertEqual(read_net("1 dice : 0-0"), ring(1, "dice"))

    def test_read_back(self):
        for net in [chance_net(seed) for seed in range(150)] + [whole_net(6, "left"), (2, ((0, 1),) * 40, "dice")]:
            text = show_net(net)
            boxes, pairs, ties = net
            self.assertEqual(text, f"{boxes} {ties} : " + " ".join(f"{a}-{b}" for a, b in pairs))
            self.assertEqual(read_net(text), net)
            self.assertTrue(is_net(read_net(text)))
            assert_plain(self, [text, read_net(text)])

    def test_refused(self):
        good = "3 left : 0-1 1-2"
        for text in ["", good + "\n", "\n" + good, " " + good, good + " ", good.replace(" : ", ":"),
                     good.replace(" : ", " :"), good.replace(" : ", ": "), good.replace(" : ", "  : "),
                     good.replace(" : ", " :  "), good.replace("3 left", "3  left"), good.replace("3 left", "left 3"),
                     good.replace("3 left", "left"), good.replace("3 left", "3"), good.replace("left", "right"),
                     good.replace("left", "Left"), good.replace("left", ""), good.replace("-", " - "),
                     good.replace("-", ""), good.replace("-", "--"), good.replace("-", ","), good.replace("-", "/"),
                     good.replace("1 1", "1  1"), good.replace("1 1", "1\n1"), good.replace("1 1", "1, 1"),
                     good.replace("3", "0"), good.replace("3", "2"), good.replace("3", "7"), good.replace("3", "03"),
                     good.replace("3", "-3"), good.replace("3", "+3"), good.replace("3", "3/1"), good + " 1-3",
                     good + " -1-0", good + " 0--1", good + " 0-1-2", good + " 0", good + " 00-1", good + " 0-01",
                     good + " 0-", good + " -0", good + " a-b", good + " 0-\u0661", good + " : 0-1", "3 left", "3 left :",
                     "3 left : ", " : 0-1", "3 left dice : 0-1", "3 dice left : 0-1", good + " 0-1" * 39, "\u0663" + good[1:]]:
            assert_refused(self, NoText, read_net, text)
        self.assertEqual(len(read_net(good)[1]), 2)
        self.assertEqual(len(read_net(good + " 0-1" * 38)[1]), 40)


class Anything(unittest.TestCase):
    def test_what_is_no_text(self):
        for thing in [*anything(), [], b"1", b"1 : 1", ["1"], ("1",), {"1": 1}, (1, 1), ((1, 1),), [((0,), (1, 1))],
                      [((0,), (0,), (1, 1))], (1, ((0, 0),), "left"), 1, 0, True, False, None]:
            if type(thing) is str:
                continue
            for read in READERS:
                assert_refused(self, NoText, read, thing)

    def test_texts_of_other_kinds(self):
        texts = {read_share: "-1/2", read_load: "3 2 0", read_rule: "1/3 2/3", read_spread: "1 1 : 3/4\n2 0 : 1/4",
                 read_joint: "1 1 | 2 0 : 1", read_net: "3 left : 0-1 1-2"}
        for read in READERS:
            for other, text in texts.items():
                if read == other:
                    self.assertIsNotNone(read(text))
                else:
                    assert_refused(self, NoText, read, text)

    def test_texts_by_chance(self):
        """Whatever text is read, it is the one that is written of what was read."""
        chance = random.Random(78)
        shows = (show_share, show_load, show_rule, show_spread, show_joint, show_net)
        good = ["3/4", "-2", "2 1 0", "1/2 1/2", "1 1 : 3/4\n2 0 : 1/4", "1 1 | 2 0 : 1", "2 left : 0-1 1-1", "1", "0 : 1"]
        met = 0
        for turn in range(6000):
            text = list(chance.choice(good))
            for change in range(chance.randrange(3)):
                at = chance.randrange(len(text) + 1)
                text[at:at + chance.randrange(2)] = chance.choice(["", "0", "1", "2", " ", "/", "-", ":", "|", "\n", "3"])
            text = "".join(text)
            for read, show in zip(READERS, shows):
                try:
                    found = read(text)
                except NoText:
                    continue
                self.assertEqual(show(found), text)
                met += 1
        self.assertGreater(met, 1500)

    def test_four_thousand_signs(self):
        for text in ["1" * 4000, "0" * 4000, "9" * 2000 + "/" + "1" * 1999, " " * 4000, "\n" * 4000, "0 " * 2000,
                     "1/2 " * 1000, "0 : 1\n" * 666, "0 | 0 : 1\n" * 400, "1 left : " + "0-0 " * 990, "~" * 4000]:
            for read in READERS:
                try:
                    self.assertIsNotNone(read(text))
                except NoText:
                    pass
        for read in READERS[1:]:
            assert_refused(self, NoText, read, "0 " * 2000)


if __name__ == "__main__":
    unittest.main()
