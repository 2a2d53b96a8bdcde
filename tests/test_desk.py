import random
import unittest

from emptierbox.beside import fuller_at
from emptierbox.desk import Desk
from emptierbox.errors import BallError, NoBall, NoName, NoRow, NoText, TooMany, Unlike
from emptierbox.held import held
from emptierbox.layers import least_layers
from emptierbox.means import fullest_share, mean
from emptierbox.reader import read_rule, read_share, read_spread
from emptierbox.rules import drawn, mixed, unlike
from emptierbox.shares import is_less
from emptierbox.spreads import after, alone, leave, put
from emptierbox.steady import steady, turn
from emptierbox.texts import show_load, show_rule, show_share, show_spread
from tests.things import anything, assert_plain, assert_refused, chance_rule

# The words that write no number, and those that write one.
NO_NUMBERS = ["", "01", "00", "-0", "+1", "a", "1.0", "1/2", "1a", "\u0661", "\u00b2", "x" * 50, "-", "one", "1\n", "\t1"]
WORDS = ("fullest", "emptiest", "gap", "squares")


def desk_with(rules=None, spreads=None):
    """A desk with these rules and loads, told by their texts."""
    desk = Desk()
    for name, rule in (rules or {}).items():
        desk.say(f"rule {name} {show_rule(rule)}")
    for name, load in (spreads or {}).items():
        desk.say(f"load {name} {show_load(load)}")
    return desk


def small_desk():
    return desk_with({"r": drawn(2, 2), "q": drawn(3, 1)}, {"s": (2, 1), "t": (1, 1, 1)})


class Base(unittest.TestCase):
    def refused(self, desk, refusal, row):
        """The row is refused with this class alone, and all that the desk keeps stays as it is."""
        kept = self.kept(desk)
        assert_refused(self, refusal, desk.say, row)
        self.assertEqual(self.kept(desk), kept)

    def kept(self, desk):
        found = {}
        for name in ("a", "b", "r", "q", "s", "t", "big", "longname"):
            try:
                found[name] = desk.say("show " + name)
            except NoName:
                pass
        return found


class Rows(Base):
    def test_drawn(self):
        for n in range(1, 13):
            for many in range(1, 5):
                desk = Desk()
                self.assertEqual(desk.say(f"drawn a {n} {many}"), "ok")
                self.assertEqual(desk.say("show a"), show_rule(drawn(n, many)))

    def test_unlike(self):
        for n in range(1, 13):
            for many in range(1, n + 1):
                desk = Desk()
                self.assertEqual(desk.say(f"unlike a {n} {many}"), "ok")
                self.assertEqual(desk.say("show a"), show_rule(unlike(n, many)))
            self.refused(Desk(), NoText, f"unlike a {n} {n + 1}")
            self.refused(Desk(), NoText, f"unlike a {n} 0")

    def test_rule(self):
        chance = random.Random(80)
        for n in range(1, 13):
            for most in (4, 40, 10 ** 20):
                rule = chance_rule(chance, n, most)
                desk = Desk()
                self.assertEqual(desk.say("rule a " + show_rule(rule)), "ok")
                self.assertEqual(desk.say("show a"), show_rule(rule))

    def test_mix(self):
        chance = random.Random(81)
        for part, text in [((0, 1), "0"), ((1, 1), "1"), ((1, 3), "1/3"), ((999, 1000), "999/1000")]:
            for n in (1, 2, 5, 12):
                one, other = chance_rule(chance, n), chance_rule(chance, n)
                desk = desk_with({"a": one, "b": other})
                self.assertEqual(desk.say(f"mix c {text} a b"), "ok")
                self.assertEqual(desk.say("show c"), show_rule(mixed(part, one, other)))
                self.assertEqual(desk.say(f"mix b {text} b b"), "ok")
                self.assertEqual(desk.say("show b"), show_rule(other))
                self.assertEqual(desk.say("show a"), show_rule(one))

    def test_load(self):
        for load in [(0,), (40,), (3, 1), (2, 2, 2), (10, 10, 10, 10), (7, 7, 7, 7, 6, 6), (0,) * 6, (35, 1, 1, 1, 1, 1)]:
            desk = Desk()
            self.assertEqual(desk.say("load a " + show_load(load)), "ok")
            self.assertEqual(desk.say("show a"), show_spread(alone(load)))

    def test_put_turn_leave(self):
        desk = desk_with({"r": drawn(3, 2)}, {"s": (2, 1, 0)})
        spread = alone((2, 1, 0))
        for row, deed in [("put s r", lambda: put(drawn(3, 2), spread)), ("leave s", lambda: leave(spread)),
                          ("turn s r", lambda: turn(drawn(3, 2), spread))] * 3:
            spread = deed()
            self.assertEqual(desk.say(row), "ok")
            self.assertEqual(desk.say("show s"), show_spread(spread))
            self.assertEqual(desk.say("show r"), show_rule(drawn(3, 2)))

    def test_steady(self):
        desk = desk_with({"r": drawn(3, 2), "one": ((1, 1),), "six": drawn(6, 2), "many": drawn(7, 2)})
        for balls in range(1, 10):
            self.assertEqual(desk.say(f"steady a r {balls}"), "ok")
            self.assertEqual(desk.say("show a"), show_spread(steady(drawn(3, 2), balls)))
        for balls in range(1, 13):
            self.assertEqual(desk.say(f"steady a one {balls}"), "ok")
            self.assertEqual(desk.say("show a"), f"{balls} : 1")
        for row in ("steady a r 10", "steady a r 12", "steady a six 12", "steady a many 1"):
            self.refused(desk, TooMany, row)
        self.assertEqual(desk.say("steady r r 2"), "ok")
        self.assertEqual(desk.say("show r"), show_spread(steady(drawn(3, 2), 2)))

    def test_show(self):
        desk = small_desk()
        self.assertEqual(desk.say("show r"), "1/4 3/4")
        self.assertEqual(desk.say("show s"), "2 1 : 1")
        desk.say("put s r")
        self.assertEqual(desk.say("show s"), "2 2 : 3/4\n3 1 : 1/4")

    def test_mean_and_fullest(self):
        desk = desk_with({"r": drawn(3, 2)}, {"s": (1, 0, 0)})
        spread = alone((1, 0, 0))
        for ball in range(6):
            desk.say("put s r")
            spread = put(drawn(3, 2), spread)
            for word in WORDS:
                self.assertEqual(desk.say("mean s " + word), show_share(mean(spread, word)))
            for m in (-10 ** 39, -3, -1, 0, 1, 2, 3, 4, 7, 8, 10 ** 39):
                self.assertEqual(desk.say(f"fullest s {m}"), show_share(fullest_share(spread, m)))
        self.assertEqual(desk.say("fullest s -1"), "1")
        self.assertEqual(desk.say("fullest s 8"), "0")

    def test_rules(self):
        chance = random.Random(82)
        answers = []
        for turn_of in range(60):
            n = chance.randrange(1, 13)
            one, other = chance_rule(chance, n, 4), chance_rule(chance, n, 4)
            k = fuller_at(one, other)
            answers.append(desk_with({"a": one, "b": other}).say("rules a b"))
            self.assertEqual(answers[-1], "no fuller" if k is None else f"fuller {k}")
        self.assertGreater(len(set(answers)), 4)
        desk = small_desk()
        self.assertEqual(desk.say("rules r r"), "no fuller")
        self.assertEqual(desk.say("drawn a 2 1") + desk.say("rules a r"), "okfuller 1")

    def test_held(self):
        desk = desk_with({}, {"a": (1, 1), "b": (2, 0), "c": (1, 1, 0)})
        self.assertEqual(desk.say("held a b"), "joint")
        self.assertEqual(desk.say("held b a"), "set")
        self.assertEqual(desk.say("held a a"), "joint")
        self.refused(desk, Unlike, "held a c")
        self.assertEqual(held(alone((2, 0)), alone((1, 1)))[0], "set")

    def test_layers(self):
        for rule in (drawn(4, 2), unlike(3, 2), drawn(1, 1), drawn(12, 3)):
            desk = desk_with({"a": rule})
            for balls in (0, 1, 6, 24):
                for m in (1, 2, 3, 6):
                    self.assertEqual(desk.say(f"layers a {balls} {m}"), show_share(least_layers(rule, balls, m)[0]))

    def test_answers_are_plain_texts(self):
        desk = small_desk()
        for row in ("drawn a 2 2", "unlike b 3 2", "rule c 1/2 1/2", "mix d 1/2 a r", "load e 3 0", "put e r", "leave e",
                    "turn e r", "steady f r 4", "show f", "show d", "mean e gap", "fullest e 2", "rules a r", "held e f",
                    "layers a 5 2"):
            if row == "held e f":
                desk.say("load e 4 0")
            answer = desk.say(row)
            assert_plain(self, answer)
            self.assertIs(type(answer), str)


class NoRows(Base):
    def test_what_is_no_text(self):
        desk = small_desk()
        for thing in [*anything(), [], ["show r"], ("show", "r"), {"show": "r"}, b"show r"]:
            if type(thing) is not str:
                self.refused(desk, NoRow, thing)

    def test_first_words(self):
        desk = small_desk()
        for row in ["", " ", "  ", "r", "show", "Show r", "SHOW r", "shows r", "sho r", "show\tr", " show r", "show\nr", "\n",
                    "new a 1 2", "help", "quit", "show, r", "DRAWN a 2 2", "Rule a 1", "steadY a r 2", "say show r",
                    "text a", "word a", "either r", "spread s"]:
            self.refused(desk, NoRow, row)

    def test_how_many_words(self):
        desk = small_desk()
        good = ["drawn a 2 2", "unlike a 2 2", "mix a 1/2 r r", "put s r", "turn s r", "leave s", "steady a r 2", "show r",
                "mean s gap", "fullest s 1", "rules r r", "held s s", "layers r 2 2"]
        for row in good:
            words = row.split(" ")
            for many in range(1, len(words)):
                self.refused(desk, NoRow, " ".join(words[:many]))
            for more in (" ", " r", " 1", "  ", " r r r r r r r r r r r r r r"):
                self.refused(desk, NoRow, row + more)
            self.refused(desk, NoRow, row.replace(" ", "  ", 1))
            self.refused(desk, NoRow, " " + row)
            small_desk().say(row)

    def test_how_many_shares_and_numbers(self):
        desk = small_desk()
        for row in ["rule", "rule a", "load", "load a", "rule a " + "0 " * 12 + "1", "rule a" + " 1/13" * 13,
                    "load a 0 0 0 0 0 0 0", "load a" + " 0" * 8, "rule a" + " x" * 13, "load a" + " x" * 7,
                    "rule A" + " x" * 13, "load a 3  2 1 1 1 1", "rule a" + "  0" * 7, "load a 1 1 1 1 1 1 ",
                    "rule A", "load A", "rule ", "load "]:
            self.refused(desk, NoRow, row)
        self.assertEqual(desk.say("rule a " + "0 " * 11 + "1"), "ok")
        self.assertEqual(desk.say("load a 0 0 0 0 0 0"), "ok")
        self.assertEqual(desk.say("rule a 1"), "ok")
        self.assertEqual(desk.say("load a 0"), "ok")


class NoNames(Base):
    def test_new_names(self):
        news = ["drawn {} 2 2", "unlike {} 2 2", "rule {} 1", "mix {} 1/2 r r", "load {} 0", "steady {} r 2"]
        for form in news:
            desk = small_desk()
            for name in ["", "A", "aB", "a1", "1", "abcdefghi", "a_b", "a-b", "a.b", "\u00e4", "\u0431", "a\n", "\ta", "-",
                         "x" * 4000, "Abcdefgh", "abcdefgH", "a{", "`a", "\u00aa"]:
                self.refused(desk, NoName, form.format(name))
            for name in ["a", "z", "az", "abcdefgh", "zzzzzzzz", "show", "ok", "rule", "drawn", "none"]:
                self.assertEqual(desk.say(form.format(name)), "ok")
                self.assertIsNotNone(desk.say("show " + name))

    def test_names_of_none(self):
        desk = small_desk()
        for name in ["a", "x", "", "R", "S", "rr", "abcdefghi", "1", "show", "None", "s\n"]:
            for row in ["put {} r", "put s {}", "turn {} r", "turn s {}", "leave {}", "steady b {} 2", "show {}", "held s {}",
                        "mean {} gap", "fullest {} 1", "rules {} r", "rules r {}", "held {} s", "mix b 1/2 {} r",
                        "mix b 1/2 r {}", "layers {} 2 2", "put {} {}", "rules {} {}", "held {} {}", "mix b 1/2 {} {}"]:
                self.refused(desk, NoName, row.replace("{}", name))

    def test_the_other_sort(self):
        desk = small_desk()
        for row in ["put r r", "put s s", "put r s", "turn r r", "turn s s", "turn r s", "leave r", "steady a s 2",
                    "mean r gap", "fullest r 1", "rules s r", "rules r s", "rules s s", "held r s", "held s r", "held r r",
                    "mix a 1/2 s r", "mix a 1/2 r s", "mix a 1/2 s s", "layers s 2 2"]:
            self.refused(desk, NoName, row)

    def test_the_last_one_told(self):
        desk = Desk()
        desk.say("drawn a 2 2")
        desk.say("drawn a 3 1")
        self.assertEqual(desk.say("show a"), "1/3 1/3 1/3")
        desk.say("load a 2 1")
        self.assertEqual(desk.say("show a"), "2 1 : 1")
        self.refused(desk, NoName, "rules a a")
        self.assertEqual(desk.say("mean a gap"), "1")
        desk.say("rule a 1/2 1/2")
        self.refused(desk, NoName, "leave a")
        self.assertEqual(desk.say("rules a a"), "no fuller")
        desk.say("steady a a 2")
        self.assertEqual(desk.say("show a"), "1 1 : 1/2\n2 0 : 1/2")
        self.refused(desk, NoName, "steady a a 2")
        desk.say("drawn a 2 2")
        self.assertEqual(desk.say("show a"), "1/4 3/4")

    def test_a_name_stands_by_itself(self):
        """What is made of a name's rule or spread stays where that name is told again."""
        desk = desk_with({"r": drawn(2, 2)}, {"s": (1, 0)})
        desk.say("mix a 1 r r")
        desk.say("put s r")
        kept = desk.say("show a"), desk.say("show s")
        desk.say("drawn r 2 1")
        self.assertEqual((desk.say("show a"), desk.say("show s")), kept)


class NoTexts(Base):
    def test_numbers(self):
        desk = small_desk()
        for word in NO_NUMBERS:
            for form in ["drawn a {} 2", "drawn a 2 {}", "unlike a {} 2", "unlike a 2 {}", "load a {}", "load a 3 {}",
                         "load a {} 0", "steady a r {}", "fullest s {}", "layers r {} 2", "layers r 2 {}"]:
                self.refused(desk, NoText, form.replace("{}", word))

    def test_bounds(self):
        desk = small_desk()
        great = "9" * 40
        for row in ["drawn a 0 2", "drawn a 13 2", "drawn a -1 2", "drawn a 2 0", "drawn a 2 5", "drawn a 2 -1",
                    "drawn a 12 5", f"drawn a {great} 2", f"drawn a 2 {great}", "unlike a 0 1", "unlike a 13 1",
                    "unlike a 12 13", "unlike a 3 4", "unlike a 3 0", "unlike a 3 -1", f"unlike a {great} 1", "unlike a 0 0",
                    f"unlike a {great} {great}", "steady a r 0", "steady a r 13", "steady a r -1", f"steady a r {great}",
                    "layers r -1 2", "layers r 25 2", "layers r 2 0", "layers r 2 7", "layers r 2 -1",
                    f"layers r {great} 2", f"layers r 2 {great}", "drawn a 13 5", "layers r 25 7"]:
            self.refused(desk, NoText, row)
        for row in ["drawn a 1 1", "drawn a 12 4", "unlike a 12 12", "unlike a 1 1", "layers r 0 1", "layers r 24 6",
                    "unlike a 12 5"]:
            desk.say(row)

    def test_loads(self):
        desk = small_desk()
        for row in ["load a 41", "load a 40 1", "load a 21 20", "load a 7 7 7 7 7 6", "load a 1 2", "load a 0 1",
                    "load a 2 1 2", "load a -1", "load a 1 -1", "load a " + "9" * 40, "load a 3 ", "load a  3",
                    "load a 3  2", "load a 3/1", "load a 1/2"]:
            self.refused(desk, NoText, row)
        for row in ["load a 40", "load a 20 20", "load a 39 1", "load a 7 7 7 7 6 6"]:
            self.assertEqual(desk.say(row), "ok")

    def test_rules(self):
        desk = small_desk()
        for row in ["rule a 1/2", "rule a 1/2 1/3", "rule a 2", "rule a -1 2", "rule a 2/4 1/2", "rule a 1/1", "rule a 0",
                    "rule a 1/2 1/2 ", "rule a 1/2  1/2", "rule a  1", "rule a x", "rule a 1/2 x", "rule a 3/2 -1/2",
                    "rule a 01", "rule a +1", "rule a 1 0/1", "rule a 1\n"]:
            self.refused(desk, NoText, row)

    def test_shares_of_a_mixture(self):
        desk = small_desk()
        for word in ["", "-1", "-1/2", "2", "3/2", "1001/1000", "2/4", "1/1", "0/1", "x", "1/0", "+1", "-0", "1//2", "0.5",
                     "1" + "0" * 39 + "/" + "9" * 39, "01/2"]:
            self.refused(desk, NoText, f"mix a {word} r r")

    def test_words_of_a_mean(self):
        desk = small_desk()
        for word in ["", "Gap", "GAP", "gaps", "ga", "fuller", "square", "load", "gap\n", "\tgap", "mean", "0", "None"]:
            self.refused(desk, NoText, f"mean s {word}")


class InTheirOrder(Base):
    def test_row_then_name_then_text_then_points(self):
        desk = small_desk()
        for refusal, row in [
                (NoRow, "drawn A x x x"), (NoRow, "drawn A x"), (NoName, "drawn A x x"), (NoName, "drawn A 0 0"),
                (NoText, "drawn a x 0"), (NoRow, "mix A x x"), (NoName, "mix A x r r"), (NoName, "mix a x r s"),
                (NoName, "mix a x nobody r"), (NoName, "mix A 1/2 r q"), (NoName, "mix a 2 nobody r"),
                (NoText, "mix a x r q"), (NoText, "mix a 2 r q"), (Unlike, "mix a 1/2 r q"), (Unlike, "mix a 1/2 q r"),
                (NoName, "rule A x"), (NoRow, "rule A"), (NoText, "rule a x"), (NoName, "load A x"), (NoRow, "load A"),
                (NoName, "load A 41"), (NoText, "load a x"), (NoName, "steady A r x"), (NoName, "steady a s x"),
                (NoName, "steady A s 13"), (NoName, "steady A nobody 1"), (NoText, "steady a r x"),
                (NoName, "mean r x"), (NoName, "mean nobody x"), (NoText, "mean s x"), (NoName, "fullest r x"),
                (NoText, "fullest s x"), (NoName, "layers s x x"), (NoName, "layers nobody 99 99"),
                (NoText, "layers r x 2"), (NoName, "put s s"), (NoRow, "put s r r"), (NoName, "put t nobody"),
                (Unlike, "put s q"), (Unlike, "put t r"), (Unlike, "turn s q"), (Unlike, "rules r q"),
                (Unlike, "held s t"), (NoName, "held s q"), (NoName, "turn s s")]:
            self.refused(desk, refusal, row)

    def test_as_the_points_tell(self):
        desk = desk_with({"r": drawn(2, 2), "big": drawn(6, 1), "a": drawn(12, 2)}, {"s": (0, 0), "t": (0,) * 6})
        self.refused(desk, NoBall, "leave s")
        self.refused(desk, NoBall, "turn s r")
        # Without a ball NoBall goes ahead of Unlike.
        self.refused(desk, NoBall, "turn s big")
        self.refused(desk, Unlike, "put s big")
        self.refused(desk, Unlike, "put s a")
        self.refused(desk, TooMany, "steady b a 3")
        self.refused(desk, NoText, "steady b a 13")
        self.refused(desk, TooMany, "steady b big 12")
        for ball in range(12):
            self.assertEqual(desk.say("put t big"), "ok")
        self.assertEqual(desk.say("show t"), show_spread(after(drawn(6, 1), alone((0,) * 6), 12)))
        self.refused(desk, TooMany, "put t big")
        self.refused(desk, Unlike, "put t r")
        self.refused(desk, TooMany, "held t t")
        self.refused(desk, Unlike, "held t s")
        self.refused(desk, Unlike, "held s t")
        self.assertEqual(desk.say("turn t big"), "ok")

    def test_a_refused_row_changes_nothing(self):
        desk = small_desk()
        desk.say("drawn a 2 1")
        for refusal, row in [(NoText, "drawn a 13 1"), (NoText, "unlike a 2 3"), (NoText, "rule a 1/2"),
                             (Unlike, "mix a 1/2 r q"), (NoText, "load a 41"), (NoText, "steady a r 0"),
                             (TooMany, "steady a q 12"), (NoName, "steady a nobody 2"), (NoName, "mix a 1/2 r nobody"),
                             (Unlike, "put s q"), (Unlike, "turn t r")]:
            self.refused(desk, refusal, row)
        self.assertEqual(desk.say("show a"), "1/2 1/2")


class Desks(Base):
    def test_two_desks_beside_one_another(self):
        one, other = Desk(), Desk()
        one.say("drawn a 2 2")
        self.refused(other, NoName, "show a")
        other.say("load a 3 1")
        self.assertEqual(one.say("show a"), "1/4 3/4")
        self.assertEqual(other.say("show a"), "3 1 : 1")
        self.refused(Desk(), NoName, "show a")

    def test_by_chance(self):
        """Rows by chance, held against the functions that they stand for."""
        for seed in range(12):
            self.run_by_chance(random.Random(seed))

    def run_by_chance(self, chance):
        desk, kept = Desk(), {}
        for turn_of in range(120):
            a, b, c = (chance.choice("abcd") for at in range(3))
            n, many = chance.randrange(1, 4), chance.randrange(1, 4)
            row, deed = chance.choice([
                (f"drawn {a} {n} {many}", lambda: drawn(n, many)),
                (f"load {a}{' 1' * n}", lambda: alone((1,) * n)),
                (f"mix {a} 1/3 {b} {c}", lambda: self.only(tuple, kept, b, c) and mixed((1, 3), kept[b], kept[c])),
                (f"put {a} {b}", lambda: self.both(kept, a, b) and put(kept[b], kept[a])),
                (f"turn {a} {b}", lambda: self.both(kept, a, b) and turn(kept[b], kept[a])),
                (f"leave {a}", lambda: self.only(list, kept, a) and leave(kept[a])),
                (f"steady {a} {b} {many}", lambda: self.only(tuple, kept, b) and steady(kept[b], many))])
            try:
                wanted = deed()
            except BallError as refusal:
                self.refused(desk, type(refusal), row)
                continue
            self.assertEqual(desk.say(row), "ok")
            kept[a] = wanted
            for name, thing in kept.items():
                self.assertEqual(desk.say("show " + name),
                                 show_rule(thing) if type(thing) is tuple else show_spread(thing))

    def only(self, kind, kept, *names):
        if not all(type(kept.get(name)) is kind for name in names):
            raise NoName
        return True

    def both(self, kept, spread, rule):
        return self.only(list, kept, spread) and self.only(tuple, kept, rule)

    def test_what_is_shown_is_read_back(self):
        desk = desk_with({"r": drawn(3, 2)}, {"s": (4, 0, 0)})
        for turn_of in range(20):
            desk.say("turn s r")
        spread = read_spread(desk.say("show s"))
        self.assertEqual(show_spread(spread), desk.say("show s"))
        self.assertEqual(read_rule(desk.say("show r")), drawn(3, 2))
        self.assertEqual(read_share(desk.say("mean s squares")), mean(spread, "squares"))
        self.assertFalse(is_less((1, 1), read_share(desk.say("fullest s 2"))))

    def test_long_numbers(self):
        """Shares of so many figures that Python itself would not write them at once."""
        desk = Desk()
        bottom = 10 ** 39 + 3
        part = (7, bottom)
        desk.say("rule a 1 0")
        desk.say("rule b 0 1")
        wanted = ((1, 1), (0, 1))
        for turn_of in range(120):
            self.assertEqual(desk.say(f"mix a 7/{bottom} a b"), "ok")
            wanted = mixed(part, wanted, ((0, 1), (1, 1)))
        self.assertGreater(wanted[0][1], 10 ** 4600)
        self.assertTrue(read_rule(desk.say("show a")) == wanted)
        desk.say("load s 3 0")
        desk.say("put s a")
        spread = put(wanted, alone((3, 0)))
        self.assertTrue(read_spread(desk.say("show s")) == spread)
        self.assertTrue(read_share(desk.say("mean s gap")) == mean(spread, "gap"))


if __name__ == "__main__":
    unittest.main()
