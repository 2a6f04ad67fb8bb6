"""Books led into knowers, knowers into books, and books judged for all slim trees at once."""

from nearpapers.books import Book
from nearpapers.branches import smallest_parting
from nearpapers.errors import NoHouse, NoTree, NotShown, OtherSigns, TooMany
from nearpapers.forms import planted
from nearpapers.knowers import is_tree_for, kinds_below, knows
from nearpapers.knowing import climber_of, knower_from
from nearpapers.looksets import book_climber
from nearpapers.plain import is_below
from nearpapers.rootmarks import rooted_looks
from nearpapers.webs import distances

MOST_KINDS = 4


def knower_of(book):
    """A least knower of just the slim trees that a book shows."""
    return knower_from(book_climber(book))


def book_of(knower):
    """The book whose marks tell the kinds of branches and the way to a root; it shows what the knower knows."""
    if knower.kinds > MOST_KINDS:
        raise TooMany(MOST_KINDS)
    return Book(knower.signs, 3 * knower.kinds, tuple(sorted(rooted_looks(knower))))


def run_marks(knower, web, root):
    """Papers by the book of a knower for a tree that it knows, the root being the house without a way up."""
    if not is_tree_for(knower, web):
        raise NoTree()
    if not is_below(web.many, root):
        raise NoHouse()
    if not knows(knower, web):
        raise NotShown()
    # The root's kind is told as 0 by kinds_below.
    kinds = kinds_below(knower, web, root)
    return tuple([3 * kinds[house] + int(far) % 3 for house, far in enumerate(distances(web, root))])


def shows(book, knower):
    """None if of slim trees a book shows just those that a knower knows, else the pair (word, form) of one."""
    if book.signs != knower.signs:
        raise OtherSigns()
    form = smallest_parting(book_climber(book), climber_of(knower))
    if form is None:
        return None
    return ("unshown" if knows(knower, planted(form)) else "fooled", form)


def same_shown(one, other):
    """None if two books show the same slim trees, else the form of one that just one of them shows."""
    if one.signs != other.signs:
        raise OtherSigns()
    return smallest_parting(book_climber(one), book_climber(other))
