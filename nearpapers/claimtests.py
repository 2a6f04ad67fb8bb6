"""The tests of the rules of most claims, in the words in which the claims tell when a house says yes."""

from nearpapers.balanced import all_of
from nearpapers.ruleparts import ITS_NAME, NAME, WEIGHT, below, chosen, each_same, if_so, its
from nearpapers.ruleparts import just_if, number, one_less, one_more, own, picked, plus, same, zero


def leader_test():
    """Papers (root, far): the way to the house with sign 1."""
    has_sign = same(("sign",), number(1))
    return all_of([
        each_same(0),
        just_if(zero(own(1)), has_sign),
        chosen(has_sign, same(own(0), NAME), ("any", one_less(1))),
    ])


def root_tests():
    """Each its root is the own one; far is 0 exactly if root is the own name."""
    return [each_same(0), just_if(zero(own(1)), same(own(0), NAME))]


def hung_tests():
    """Each picked its far is far less 1 or far plus 1; the first for just one, for none if far is 0."""
    less = ("both", picked(), one_less(1))
    return [
        ("each", if_so(picked(), ("either", one_less(1), one_more(1)))),
        chosen(zero(own(1)), zero(("count", less)), same(("count", less), number(1))),
    ]


def tree_test():
    """Papers (root, far): the picked ties hung up."""
    return all_of([*root_tests(), *hung_tests()])


def counting_tests(root_test):
    """The tests of papers (root, far, up, ..) that count what hangs on a tree, with one for the root."""
    up = ("any", ("both", same(ITS_NAME, own(2)), one_less(1)))
    return [
        *root_tests(),
        chosen(zero(own(1)), ("both", same(own(2), NAME), root_test), up),
        ("each", if_so(same(its(2), NAME), one_more(1))),
    ]


def is_sum_below(place, begun):
    """The test whether a number is what one begins with and the sum of this number of the neighbours that hang here."""
    return same(own(place), plus(begun, ("sum", same(its(2), NAME), its(place))))


def many_test(many):
    """Papers (root, far, up, beneath): how many houses hang at each."""
    return all_of([*counting_tests(same(own(3), number(many))), is_sum_below(3, number(1))])


def counts_sign(place, sign):
    """The test whether a number counts the houses with a sign that hang here, this one with them."""
    return chosen(same(("sign",), number(sign)), is_sum_below(place, number(1)), is_sum_below(place, number(0)))


def balance_test():
    """Papers (root, far, up, ones, twos): how many houses of both signs hang at each."""
    return all_of([*counting_tests(same(own(3), own(4))), counts_sign(3, 1), counts_sign(4, 2)])


def sides_test():
    """Papers (side)."""
    return ("both", below(own(0), number(2)), ("each", ("not", same(its(0), own(0)))))


def odd_test():
    """Papers (root, far, place): the way to a house of an odd ring, and places on it."""
    closes = ("both", same(("rest", its(2), 2), number(1)), below(number(1), its(2)))
    return all_of([
        *root_tests(),
        if_so(below(number(0), own(1)), ("any", one_less(1))),
        just_if(same(own(2), number(1)), zero(own(1))),
        if_so(below(number(1), own(2)), ("any", one_less(2))),
        if_so(zero(own(1)), ("any", closes)),
    ])


def few_picked():
    """The test whether at most one neighbour is picked."""
    return below(("count", picked()), number(2))


def cover_test():
    """Papers (in): whether the house is one of those that are at all ties."""
    inside = same(own(0), number(1))
    return all_of([
        below(own(0), number(2)),
        ("either", inside, ("each", same(its(0), number(1)))),
        few_picked(),
        ("each", if_so(picked(), ("not", same(its(0), own(0))))),
        if_so(inside, ("any", picked())),
    ])


def nearest_test():
    """Papers (root, far, length): the picked ties hung up at the house with sign 1, with lengths of ways."""
    far_zero = zero(own(1))
    by_way = same(own(2), plus(WEIGHT, its(2)))
    return all_of([
        each_same(0),
        just_if(far_zero, same(("sign",), number(1))),
        if_so(far_zero, ("both", same(own(0), NAME), zero(own(2)))),
        *hung_tests(),
        ("either", far_zero, ("any", all_of([picked(), one_less(1), by_way]))),
        ("each", ("not", below(plus(its(2), WEIGHT), own(2)))),
    ])


def round_test():
    """Papers (root, size, place): places on the picked ring."""
    last = same(plus(own(2), number(1)), own(1))
    behind = chosen(last, zero(its(2)), one_more(2))
    ahead = chosen(zero(own(2)), same(plus(its(2), number(1)), own(1)), one_less(2))
    return all_of([
        each_same(0),
        each_same(1),
        below(own(2), own(1)),
        just_if(zero(own(2)), same(own(0), NAME)),
        same(("count", picked()), number(2)),
        # From size 3 on the place behind and the place ahead are unlike, so two neighbours have them.
        ("any", ("both", picked(), behind)),
        ("any", ("both", picked(), ahead)),
        below(number(2), own(1)),
    ])
