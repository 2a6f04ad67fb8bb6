"""The terms and tests of rules: which things are such, and what they tell of a view."""

from nearpapers.plain import is_below, is_between
from nearpapers.worlds import NUMBERS

MOST_REST = 1000

# For each word what stands behind it: n a number, i a number below the width, d a divisor, t a term, e a test.
TERMS = {
    "number": "n", "own": "i", "name": "", "sign": "", "degree": "", "its": "i", "itsname": "", "itssign": "",
    "weight": "", "picked": "", "plus": "tt", "less": "tt", "times": "tt", "rest": "td", "count": "e", "sum": "et",
}
TESTS = {
    "yes": "", "same": "tt", "below": "tt", "not": "e", "both": "ee", "either": "ee", "each": "e", "any": "e",
}
NEAR_WORDS = ("its", "itsname", "itssign", "weight", "picked")
LOOK_WORDS = ("count", "sum", "each", "any")


def shape_of(part, thing):
    """What stands behind the word of a thing as a term, for part t, or as a test, for part e; None for neither."""
    if not isinstance(thing, tuple) or not thing or not isinstance(thing[0], str):
        return None
    shape = TERMS.get(thing[0]) if part == "t" else TESTS.get(thing[0])
    return shape if shape is not None and len(thing) == len(shape) + 1 else None


def is_plain_part(part, width, thing):
    """Whether a thing is a number as a part of a term asks it."""
    if part == "i":
        return is_below(width, thing)
    return is_between(1, MOST_REST, thing) if part == "d" else is_below(NUMBERS, thing)


class Bounds:
    """What a term or a test is held to: the width of the papers, and how many terms and tests it may have."""

    def __init__(self, width, most):
        self.width = width
        self.most = most

    def many_parts(self, part, deep, around, thing):
        """How many terms and tests stand in one of at most this depth, -1 for none; around: within a look around."""
        shape = shape_of(part, thing)
        if deep == 0 or shape is None:
            return -1
        if thing[0] in NEAR_WORDS and not around or thing[0] in LOOK_WORDS and around:
            return -1
        total = 1
        for its, item in zip(shape, thing[1:]):
            if its == "t" or its == "e":
                some = self.many_parts(its, deep - 1, around or thing[0] in LOOK_WORDS, item)
                total += some
                if some < 0 or total > self.most:
                    return -1
            elif not is_plain_part(its, self.width, item):
                return -1
        return total


def number_of(name):
    """A name as a number, that of a nameless house being 0."""
    return 0 if name is None else name


class Sight:
    """A view as terms and tests ask of it; one is the neighbour of a look around, None outside."""

    def __init__(self, seen):
        own, near = seen
        self.name = number_of(own[0])
        self.sign = own[1]
        self.paper = own[2]
        self.near = near

    def its_value(self, term, one):
        """What a term of a neighbour tells."""
        word = term[0]
        if word == "its":
            return one[4][term[1]]
        if word == "itsname":
            return number_of(one[0])
        if word == "itssign":
            return one[3]
        if word == "weight":
            return one[1]
        return 1 if one[2] else 0

    def own_value(self, term):
        """What a term of the house itself tells."""
        word = term[0]
        if word == "number":
            return term[1]
        if word == "own":
            return self.paper[term[1]]
        if word == "name":
            return self.name
        return self.sign if word == "sign" else len(self.near)

    def value(self, term, one):
        """The integer that a term tells."""
        word = term[0]
        if word in NEAR_WORDS:
            return self.its_value(term, one)
        if word == "plus":
            return self.value(term[1], one) + self.value(term[2], one)
        if word == "less":
            return self.value(term[1], one) - self.value(term[2], one)
        if word == "times":
            return self.value(term[1], one) * self.value(term[2], one)
        if word == "rest":
            return int(self.value(term[1], one)) % term[2]
        if word == "count":
            return len([row for row in self.near if self.true(term[1], row)])
        if word == "sum":
            return sum([self.value(term[2], row) for row in self.near if self.true(term[1], row)])
        return self.own_value(term)

    def true(self, test, one):
        """Whether a test holds."""
        word = test[0]
        if word == "same":
            return self.value(test[1], one) == self.value(test[2], one)
        if word == "below":
            return self.value(test[1], one) < self.value(test[2], one)
        if word == "not":
            return not self.true(test[1], one)
        if word == "both":
            return self.true(test[1], one) and self.true(test[2], one)
        if word == "either":
            return self.true(test[1], one) or self.true(test[2], one)
        if word == "each":
            return all([self.true(test[1], row) for row in self.near])
        if word == "any":
            return any([self.true(test[1], row) for row in self.near])
        return True
