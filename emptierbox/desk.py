"""A desk: it keeps rules and spreads by names, is told rows, and answers each with a text."""

from emptierbox.beside import fuller_at
from emptierbox.errors import NoName, NoRow
from emptierbox.figures import read_number, show_number
from emptierbox.held import held
from emptierbox.layers import MOST_LAYERS, least_layers
from emptierbox.means import WORDS, fullest_share, mean
from emptierbox.reader import ask, read_load, read_rule, read_share
from emptierbox.rules import MOST_RANKS, drawn, mixed, unlike
from emptierbox.shares import is_less
from emptierbox.spreads import alone, leave, put
from emptierbox.steady import steady, turn
from emptierbox.texts import show_rule, show_share, show_spread

MOST_LETTERS = 8
MOST_DRAWN = 4
MOST_BALLS = 40
MOST_BALLS_STEADY = 12
MOST_BALLS_LAYERS = 24

# What stands behind the first word of a row: a new name, the name of a rule, of
# a spread or of either, or a word that the deed reads itself.
FORMS = {
    "drawn": ("new", "word", "word"),
    "unlike": ("new", "word", "word"),
    "rule": ("new", "word"),
    "mix": ("new", "word", "rule", "rule"),
    "load": ("new", "word"),
    "put": ("spread", "rule"),
    "turn": ("spread", "rule"),
    "leave": ("spread",),
    "steady": ("new", "rule", "word"),
    "show": ("either",),
    "mean": ("spread", "word"),
    "fullest": ("spread", "word"),
    "rules": ("rule", "rule"),
    "held": ("spread", "spread"),
    "layers": ("rule", "word", "word"),
}

# Rows whose last word is a list, and how many words this may have.
MOST_LISTED = {"rule": 12, "load": 6}


def row_words(row):
    """Tell the words of a row, of anything; those of a list at its end are joined to one word."""
    if not isinstance(row, str):
        raise NoRow("a row is a text")
    words = row.split(" ")
    if len(words) > 2 and len(words) - 2 <= MOST_LISTED.get(words[0], 0):
        words = words[:2] + [" ".join(words[2:])]
    if words[0] not in FORMS or len(words) - 1 != len(FORMS[words[0]]):
        raise NoRow("there is no row of this first word and so many words")
    return words


def ask_name(word):
    """Refuse a word that is no name."""
    if len(word) < 1 or len(word) > MOST_LETTERS or not all([sign >= "a" and sign <= "z" for sign in word]):
        raise NoName("a name has one to eight small letters")


def read_within(word, least, most):
    """Tell the whole number that a word writes, from the least to the most one."""
    number = read_number(word)
    ask(number >= least and number <= most)
    return number


def say_drawn(things):
    """Make the rule of drawn boxes."""
    new, n, many = things
    return ("rule", drawn(read_within(n, 1, MOST_RANKS), read_within(many, 1, MOST_DRAWN)))


def say_unlike(things):
    """Make the rule of unlike boxes."""
    new, n, many = things
    boxes = read_within(n, 1, MOST_RANKS)
    return ("rule", unlike(boxes, read_within(many, 1, boxes)))


def say_rule(things):
    """Make a rule of its shares."""
    new, shares = things
    return ("rule", read_rule(shares))


def say_mix(things):
    """Make the mixture of two rules."""
    new, word, one, other = things
    part = read_share(word)
    ask(part[0] >= 0 and not is_less((1, 1), part))
    return ("rule", mixed(part, one, other))


def say_load(things):
    """Make the spread of one load alone."""
    new, numbers = things
    load = read_load(numbers)
    ask(sum(load) <= MOST_BALLS)
    return ("spread", alone(load))


def say_put(things):
    """Put a ball by a rule."""
    spread, rule = things
    return ("spread", put(rule, spread))


def say_turn(things):
    """Let a ball leave and one come by a rule."""
    spread, rule = things
    return ("spread", turn(rule, spread))


def say_leave(things):
    """Let a ball leave."""
    return ("spread", leave(things[0]))


def say_steady(things):
    """Make the spread that stays by a rule."""
    new, rule, balls = things
    return ("spread", steady(rule, read_within(balls, 1, MOST_BALLS_STEADY)))


def say_show(things):
    """Answer with a rule's or a spread's text."""
    # A rule is a tuple, a spread a list.
    if isinstance(things[0], tuple):
        return ("text", show_rule(things[0]))
    return ("text", show_spread(things[0]))


def say_mean(things):
    """Answer with the mean that a word names."""
    spread, word = things
    ask(word in WORDS)
    return ("text", show_share(mean(spread, word)))


def say_fullest(things):
    """Answer with the share of the loads whose fullest box holds at least so many."""
    spread, m = things
    return ("text", show_share(fullest_share(spread, read_number(m))))


def say_rules(things):
    """Answer whether one rule is no fuller than another one."""
    one, other = things
    k = fuller_at(one, other)
    if k is None:
        return ("text", "no fuller")
    return ("text", f"fuller {show_number(k)}")


def say_held(things):
    """Answer which paper there is of two spreads."""
    first, second = things
    return ("text", held(first, second)[0])


def say_layers(things):
    """Answer with the least bound of layers."""
    rule, balls, m = things
    told = least_layers(rule, read_within(balls, 0, MOST_BALLS_LAYERS), read_within(m, 1, MOST_LAYERS))
    return ("text", show_share(told[0]))


# Each deed is handed what the words behind the first one stand for. It answers
# with a text, or with a rule or a spread that is to stand by the first name.
DEEDS = {
    "drawn": say_drawn,
    "unlike": say_unlike,
    "rule": say_rule,
    "mix": say_mix,
    "load": say_load,
    "put": say_put,
    "turn": say_turn,
    "leave": say_leave,
    "steady": say_steady,
    "show": say_show,
    "mean": say_mean,
    "fullest": say_fullest,
    "rules": say_rules,
    "held": say_held,
    "layers": say_layers,
}


class Desk:
    """Rules and spreads by their names."""

    def __init__(self):
        self.kept = {}

    def say(self, row):
        """Do what a row says, and tell the answer."""
        words = row_words(row)
        # All names ahead of what is to be read of the other words.
        things = [self.meant(form, word) for form, word in zip(FORMS[words[0]], words[1:])]
        deed = DEEDS[words[0]]
        sort, answer = deed(things)
        if sort == "text":
            return answer
        self.kept[words[1]] = (sort, answer)
        return "ok"

    def meant(self, form, word):
        """Tell what a word stands for: what is kept by a name, else the word itself."""
        if form == "word":
            return word
        if form == "new":
            ask_name(word)
            return word
        if word not in self.kept:
            raise NoName("nothing stands by this name")
        sort, thing = self.kept[word]
        if form != sort and form != "either":
            raise NoName("what stands by this name is of the other sort")
        return thing
