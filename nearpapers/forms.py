"""Forms of trees: what is left of a tree when its numbers and weights are forgotten."""

from nearpapers.errors import NoForm, NoNumber, NoTree
from nearpapers.hanging import hanging_on, hung_order
from nearpapers.plain import is_below, is_between
from nearpapers.webs import SIGNS, big_web, kind, near_lists

MOST_HOUSES = 60
MOST_NEAR = 3
MOST_LISTED = (0, 8, 6, 4)


def form(web):
    """The least of the forms that a tree has, hung up at any of its houses."""
    if kind(web) != "tree":
        raise NoTree()
    return least_form(web)


def least_form(web):
    """The form of a web that is a tree."""
    near = near_lists(web)
    return min([hung_form(web.signs, near, root) for root in range(web.many)])


def hung_form(signs, near, root):
    """The form of a tree hung up at a root."""
    order, ups = hung_order(near, root)
    made = [None] * len(near)
    for house in reversed(order):
        below = [made[other] for other in hanging_on(near, ups, house)]
        made[house] = (signs[house], tuple(sorted(below)))
    return made[root]


def is_branch(most, thing):
    """Whether a thing is a pair of a sign and a tuple, of at most so many branches that hang on it."""
    if not isinstance(thing, tuple) or len(thing) != 2:
        return False
    return is_below(SIGNS, thing[0]) and isinstance(thing[1], tuple) and len(thing[1]) <= most


def tree_of(form):
    """The tree of a form, all its weights 0."""
    web = planted(form)
    if web is None or least_form(web) != form:
        raise NoForm()
    return web


def planted(thing):
    """The slim tree that hangs as a thing says, or None; it need not be the least form of it."""
    signs = []
    ties = []
    waiting = [(thing, -1)]
    while waiting:
        branch, up = waiting.pop()
        # Only the root has no neighbour above it.
        most = MOST_NEAR if up < 0 else MOST_NEAR - 1
        if len(signs) == MOST_HOUSES or not is_branch(most, branch):
            return None
        house = len(signs)
        signs.append(branch[0])
        if up >= 0:
            ties.append((up, house, 0))
        for below in reversed(branch[1]):
            waiting.append((below, house))
    return big_web(tuple(signs), tuple(sorted(ties)))


def trees(signs, many):
    """The ascending tuple of the forms of all slim trees of so many houses with signs below signs."""
    if not is_between(1, 3, signs):
        raise NoNumber()
    if not is_between(1, MOST_LISTED[signs], many):
        raise NoNumber()
    forms = [(sign, ()) for sign in range(signs)]
    for _ in range(many - 1):
        forms = once_each([grown for one in forms for grown in grown_forms(one, signs)])
    return tuple(forms)


def grown_forms(one, signs):
    """The forms of the slim trees that a form becomes by one house more."""
    web = planted(one)
    near = near_lists(web)
    grown = []
    for house in range(web.many):
        if len(near[house]) < MOST_NEAR:
            ties = tuple(sorted([*web.ties, (house, web.many, 0)]))
            for sign in range(signs):
                grown.append(least_form(big_web((*web.signs, sign), ties)))
    return grown


def once_each(forms):
    """The forms in ascending order, each once; they nest too deep for the members of a set."""
    told = []
    for one in sorted(forms):
        if not told or told[-1] != one:
            told.append(one)
    return told
