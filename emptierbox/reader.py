"""Shares, loads, rules, spreads, joint spreads and nets read back from their texts."""

from emptierbox.errors import NoText
from emptierbox.figures import read_number
from emptierbox.joints import is_joint
from emptierbox.loads import is_load
from emptierbox.nets import is_net
from emptierbox.rules import is_rule
from emptierbox.shares import is_share
from emptierbox.spreads import is_spread


def ask(fits):
    """Refuse a text by which something doesn't fit."""
    if not fits:
        raise NoText("the text writes nothing of the kind that is asked for")


def words_of(text, between, many):
    """Tell the words of a text, which must be so many."""
    words = text.split(between)
    ask(len(words) == many)
    return words


def read_share(text):
    """Tell the share that a text writes."""
    ask(isinstance(text, str))
    if "/" not in text:
        return (read_number(text), 1)
    top, bottom = words_of(text, "/", 2)
    told = (read_number(top), read_number(bottom))
    # A bottom of 1 is not written.
    ask(is_share(told) and told[1] != 1)
    return told


def read_load(text):
    """Tell the load that a text writes."""
    ask(isinstance(text, str))
    told = tuple([read_number(word) for word in text.split(" ")])
    ask(is_load(told))
    return told


def read_rule(text):
    """Tell the rule that a text writes."""
    ask(isinstance(text, str))
    told = tuple([read_share(word) for word in text.split(" ")])
    ask(is_rule(told))
    return told


def read_spread(text):
    """Tell the spread that a text writes."""
    ask(isinstance(text, str))
    told = []
    for line in text.split("\n"):
        load, part = words_of(line, " : ", 2)
        told.append((read_load(load), read_share(part)))
    ask(is_spread(told))
    return told


def read_joint(text):
    """Tell the joint spread that a text writes."""
    ask(isinstance(text, str))
    told = []
    for line in text.split("\n"):
        pair, part = words_of(line, " : ", 2)
        one, other = words_of(pair, " | ", 2)
        told.append((read_load(one), read_load(other), read_share(part)))
    ask(is_joint(told))
    return told


def read_net(text):
    """Tell the net that a text writes."""
    ask(isinstance(text, str))
    head, tail = words_of(text, " : ", 2)
    boxes, ties = words_of(head, " ", 2)
    pairs = []
    for word in tail.split(" "):
        a, b = words_of(word, "-", 2)
        pairs.append((read_number(a), read_number(b)))
    told = (read_number(boxes), tuple(pairs), ties)
    ask(is_net(told))
    return told
