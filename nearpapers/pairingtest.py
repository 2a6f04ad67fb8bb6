"""The test of the rule of the claim that no pairing has more ties than the picked one."""

from nearpapers.balanced import all_of, any_of
from nearpapers.claimtests import few_picked
from nearpapers.ruleparts import NAME, below, if_so, its, just_if, number, one_less, own, picked, same
from nearpapers.ruleparts import zero


def has_lot(lot):
    """The test whether the house has a lot."""
    return same(own(0), number(lot))


def its_lot(lot):
    """The test whether a neighbour has a lot."""
    return same(its(0), number(lot))


def lot_zero_test():
    """Lot 0: paired with the root of a part of lot 1."""
    return all_of([
        has_lot(0), zero(own(1)), zero(own(2)),
        ("any", all_of([picked(), its_lot(1), zero(its(2))])),
    ])


def lot_one_test():
    """Lot 1: in a part with one root, which alone is not paired within it."""
    within = ("any", ("both", picked(), its_lot(1)))
    return all_of([
        has_lot(1),
        ("each", ("not", its_lot(2))),
        ("each", if_so(its_lot(1), same(its(1), own(1)))),
        just_if(zero(own(2)), same(own(1), NAME)),
        just_if(zero(own(2)), ("not", within)),
        if_so(below(number(0), own(2)), ("any", ("both", its_lot(1), one_less(2)))),
    ])


def lot_two_test():
    """Lot 2: paired with another house of lot 2."""
    return all_of([
        has_lot(2), zero(own(1)), zero(own(2)),
        ("any", ("both", picked(), its_lot(2))),
        ("each", ("not", its_lot(1))),
    ])


def pairing_test():
    """Papers (lot, root, far)."""
    return ("both", few_picked(), any_of([lot_zero_test(), lot_one_test(), lot_two_test()]))
