"""Rules: judges that are told by a form."""

from nearpapers.errors import BadRule
from nearpapers.plain import is_between, is_row
from nearpapers.ruleforms import Bounds, Sight
from nearpapers.worlds import NUMBERS

MOST_WIDTH = 24
MOST_DEEP = 30
MOST_PARTS = 2000


class Rule:
    """So many numbers that each paper has, and the test by which a house says yes."""

    def __init__(self, width, test):
        if not is_between(0, MOST_WIDTH, width):
            raise BadRule("width")
        if Bounds(width, MOST_PARTS).many_parts("e", MOST_DEEP, False, test) < 0:
            raise BadRule("test")
        self.width = width
        self.test = test

    def __eq__(self, other):
        return isinstance(other, Rule) and self.width == other.width and self.test == other.test


def big_rule(width, test):
    """A rule that the package itself puts together: its sizes are not bounded, nor is it checked."""
    rule = Rule(0, ("yes",))
    rule.width = width
    rule.test = test
    return rule


def rule_judge(rule):
    """The judge of a rule."""
    def judge(seen):
        for paper in [seen[0][2], *[row[4] for row in seen[1]]]:
            if not is_row(NUMBERS, paper) or len(paper) != rule.width:
                return False
        return Sight(seen).true(rule.test, None)

    return judge
