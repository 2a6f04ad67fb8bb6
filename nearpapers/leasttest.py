"""The test of the rule of the claim that the picked ties make the lightest tree."""

from nearpapers.balanced import all_of, any_of
from nearpapers.ruleparts import ITS_NAME, NAME, WEIGHT, below, chosen, differ, if_so, its, just_if
from nearpapers.ruleparts import number, one_less, own, picked, same, zero

GROWING = 4
RANKS_FROM = 10


def frag_at(level):
    """The place in the papers of the part at a level; behind it stands how far its root is."""
    return 2 * level


def rank_at(level):
    """The place of the rank of the tie by which the part of a level grows."""
    return RANKS_FROM + 3 * level


def is_rank(terms, low, high):
    """The test whether the rank of the tie, the lesser and the greater name as told, is what three terms tell."""
    return all_of([same(WEIGHT, terms[0]), same(low, terms[1]), same(high, terms[2])])


def is_lighter(terms, low, high):
    """The test whether the rank of the tie, the lesser and the greater name as told, is less than three terms."""
    by_name = ("either", below(low, terms[1]), ("both", same(low, terms[1]), below(high, terms[2])))
    return ("either", below(WEIGHT, terms[0]), ("both", same(WEIGHT, terms[0]), by_name))


def by_names(make, terms):
    """A test of the rank of the tie, whichever of both names is the lesser."""
    return chosen(below(NAME, ITS_NAME), make(terms, NAME, ITS_NAME), make(terms, ITS_NAME, NAME))


def rank_terms(make, level):
    """The three terms of the rank of a level in the own paper, or in a neighbour's."""
    return [make(rank_at(level) + k) for k in range(3)]


def same_at(place):
    """The test whether a number of a neighbour's paper is that of the own one."""
    return same(its(place), own(place))


def place_tests(level):
    """The tests of (frag, far) at a level."""
    frag = frag_at(level)
    up = all_of([picked(), same_at(frag), one_less(frag + 1)])
    return [
        just_if(zero(own(frag + 1)), same(own(frag), NAME)),
        if_so(below(number(0), own(frag + 1)), ("any", up)),
    ]


def growing_test(level):
    """The test of each neighbour by which the part of a level grows by its lightest tie."""
    frag = frag_at(level)
    within = all_of([same_at(rank_at(level) + k) for k in range(3)] + [same_at(frag + 2)])
    terms = rank_terms(own, level)
    joins = ("both", picked(), same_at(frag + 2))
    outside = ("both", ("not", by_names(is_lighter, terms)), if_so(by_names(is_rank, terms), joins))
    return ("each", chosen(same_at(frag), within, outside))


def picked_test():
    """The test whether each picked tie is that by which the part of one end grows at some level."""
    told = []
    for level in range(GROWING):
        either = any_of([by_names(is_rank, rank_terms(own, level)), by_names(is_rank, rank_terms(its, level))])
        told.append(("both", differ(its(frag_at(level)), own(frag_at(level))), either))
    return ("each", if_so(picked(), any_of(told)))


def least_test():
    """Papers (frag 0, far 0, .. frag 4, far 4, weight 0, one 0, other 0, .. weight 3, one 3, other 3)."""
    tests = [same(own(0), NAME)]
    for level in range(GROWING + 1):
        tests.extend(place_tests(level))
    tests.extend([growing_test(level) for level in range(GROWING)])
    return all_of([*tests, picked_test(), ("each", same_at(frag_at(GROWING)))])
