"""Knowers: machines that go up trees and tell kinds of branches."""

from nearpapers.bundles import is_bundle, many_small, place_of, small_bundles
from nearpapers.errors import BadKnower, NoHouse, NoTree
from nearpapers.hanging import hanging_on, hung_order
from nearpapers.plain import is_below, is_between, is_row
from nearpapers.webs import kind, near_lists, slim

MOST_SIGNS = 3
MOST_KINDS = 12


class Knower:
    """So many signs and kinds, the steps that tell kinds of branches, and the wholes that are known."""

    def __init__(self, signs, kinds, steps, wholes):
        if not is_between(1, MOST_SIGNS, signs):
            raise BadKnower("signs")
        if not is_between(1, MOST_KINDS, kinds):
            raise BadKnower("kinds")
        if not is_steps(signs, kinds, steps):
            raise BadKnower("steps")
        if not is_wholes(signs, kinds, wholes):
            raise BadKnower("wholes")
        if not is_sound(signs, kinds, steps, wholes):
            raise BadKnower("sound")
        self.signs = signs
        self.kinds = kinds
        self.steps = steps
        self.wholes = wholes

    def __eq__(self, other):
        return (isinstance(other, Knower) and self.signs == other.signs and self.kinds == other.kinds
                and self.steps == other.steps and self.wholes == other.wholes)


def is_steps(signs, kinds, thing):
    """Whether a thing has for each sign a tuple with a kind for each small bundle."""
    if not isinstance(thing, tuple) or len(thing) != signs:
        return False
    return all([is_row(kinds, row) and len(row) == many_small(kinds) for row in thing])


def is_whole(signs, kinds, thing):
    """Whether a thing is a pair (sign, bundle) of a whole tree's root."""
    return (isinstance(thing, tuple) and len(thing) == 2
            and is_below(signs, thing[0]) and is_bundle(kinds, 3, thing[1]))


def is_wholes(signs, kinds, thing):
    """Whether a thing is an ascending tuple of wholes."""
    if not isinstance(thing, tuple) or not all([is_whole(signs, kinds, item) for item in thing]):
        return False
    return all([thing[k - 1] < thing[k] for k in range(1, len(thing))])


def kinds_had(signs, kinds, steps):
    """The lot of the kinds that branches have, as a list."""
    had = []
    while True:
        places = [place_of(kinds, bundle) for bundle in small_bundles(had)]
        found = sorted({steps[sign][place] for sign in range(signs) for place in places})
        if found == had:
            return had
        had = found


def with_kind(bundle, one):
    """A bundle with one kind more."""
    return tuple(sorted([*bundle, one]))


def is_sound(signs, kinds, steps, wholes):
    """Whether both ends of each tie of a tree, taken as roots, tell the same."""
    known = {whole: True for whole in wholes}
    tops = []
    for sign in range(signs):
        for bundle in small_bundles(kinds_had(signs, kinds, steps)):
            told = [(sign, with_kind(bundle, one)) in known for one in range(kinds)]
            tops.append((steps[sign][place_of(kinds, bundle)], told))
    return all([row[other] == other_row[one] for one, row in tops for other, other_row in tops])


def kinds_below(knower, web, root):
    """The list that tells for each house but the root the kind of its branch, the tree hung up there."""
    near = near_lists(web)
    order, ups = hung_order(near, root)
    kinds = [0] * web.many
    for house in reversed(order[1:]):
        bundle = tuple(sorted([kinds[other] for other in hanging_on(near, ups, house)]))
        kinds[house] = knower.steps[web.signs[house]][place_of(knower.kinds, bundle)]
    return kinds


def is_tree_for(knower, web):
    """Whether a web is a slim tree with signs below the knower's."""
    return kind(web) == "tree" and slim(web) and max(web.signs) < knower.signs


def branch_kind(knower, web, house, up):
    """The kind of the branch of a house, hung up at its neighbour up."""
    if not is_tree_for(knower, web):
        raise NoTree()
    if not is_below(web.many, house) or not is_below(web.many, up) or up not in near_lists(web)[house]:
        raise NoHouse()
    return kinds_below(knower, web, up)[house]


def knows(knower, web):
    """Whether a tree is known."""
    if not is_tree_for(knower, web):
        raise NoTree()
    kinds = kinds_below(knower, web, 0)
    bundle = tuple(sorted([kinds[other] for other in near_lists(web)[0]]))
    return (web.signs[0], bundle) in knower.wholes
