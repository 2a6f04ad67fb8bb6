"""Books of looks: judges of nameless houses whose papers are marks."""

from nearpapers.errors import BadBook
from nearpapers.plain import is_below, is_between, is_number, is_sorted

MOST_SIGNS = 3
MOST_MARKS = 12
MOST_NEAR = 3


class Book:
    """So many signs and marks, and the ascending looks (sign, mark, near) by which houses say yes."""

    def __init__(self, signs, marks, looks):
        if not is_between(1, MOST_SIGNS, signs):
            raise BadBook("signs")
        if not is_between(1, MOST_MARKS, marks):
            raise BadBook("marks")
        if not isinstance(looks, tuple):
            raise BadBook(-1)
        wrong = first_wrong_look(signs, marks, looks)
        if wrong is not None:
            raise BadBook(wrong)
        self.signs = signs
        self.marks = marks
        self.looks = looks

    def __eq__(self, other):
        return (isinstance(other, Book) and self.signs == other.signs
                and self.marks == other.marks and self.looks == other.looks)


def is_pair(signs, marks, thing):
    """Whether a thing is a pair (sign, mark)."""
    return isinstance(thing, tuple) and len(thing) == 2 and is_below(signs, thing[0]) and is_below(marks, thing[1])


def is_near(signs, marks, thing):
    """Whether a thing is what a look has for neighbours."""
    if not isinstance(thing, tuple) or len(thing) > MOST_NEAR:
        return False
    return all([is_pair(signs, marks, pair) for pair in thing]) and is_sorted(thing)


def is_look(signs, marks, thing):
    """Whether a thing is a look."""
    return (isinstance(thing, tuple) and len(thing) == 3
            and is_pair(signs, marks, thing[:2]) and is_near(signs, marks, thing[2]))


def first_wrong_look(signs, marks, looks):
    """The number of the first look that is none or not behind the one ahead, or None."""
    for at, look in enumerate(looks):
        if not is_look(signs, marks, look) or at > 0 and look <= looks[at - 1]:
            return at
    return None


def book_judge(book):
    """The judge that says yes where a view is, names and ties aside, a look of the book."""
    looks = {look: True for look in book.looks}

    def judge(seen):
        own, near = seen
        # Only numbers can be put in order; a paper of another kind is no mark.
        if not all([is_number(paper) for paper in [own[2], *[row[4] for row in near]]]):
            return False
        return (own[1], own[2], tuple(sorted([(row[3], row[4]) for row in near]))) in looks

    return judge
