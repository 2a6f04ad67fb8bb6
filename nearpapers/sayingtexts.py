"""Sayings and rules as texts."""

from nearpapers.rules import Rule
from nearpapers.sayings import Saying
from nearpapers.wordrows import read_things, rule_shape, saying_shape, words_of


def saying_text(saying):
    """The text of a saying."""
    return " ".join(words_of([("f", saying.form)], saying_shape))


def read_saying(text):
    """The saying that a text tells."""
    return Saying(read_things(text, "f", saying_shape)[0])


def rule_text(rule):
    """The text of a rule."""
    return " ".join(words_of([("n", rule.width), ("e", rule.test)], rule_shape))


def read_rule(text):
    """The rule that a text tells."""
    width, test = read_things(text, "ne", rule_shape)
    return Rule(width, test)
