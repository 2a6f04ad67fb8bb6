"""The rules of claims."""

from nearpapers.claimtests import balance_test, cover_test, leader_test, many_test, nearest_test, odd_test
from nearpapers.claimtests import round_test, sides_test, tree_test
from nearpapers.claimwords import need_claim
from nearpapers.leasttest import least_test
from nearpapers.pairingtest import pairing_test
from nearpapers.rules import big_rule


def rule_of_signs(claim):
    """The rule of a claim about signs and ties alone."""
    word = claim[0]
    if word == "leader":
        return big_rule(2, leader_test())
    if word == "many":
        return big_rule(4, many_test(claim[1]))
    if word == "balance":
        return big_rule(5, balance_test())
    return big_rule(1, sides_test()) if word == "sides" else big_rule(3, odd_test())


def rule_of_picked(word):
    """The rule of a claim about picked ties."""
    if word == "tree":
        return big_rule(2, tree_test())
    if word == "cover":
        return big_rule(1, cover_test())
    if word == "pairing":
        return big_rule(3, pairing_test())
    if word == "nearest":
        return big_rule(3, nearest_test())
    return big_rule(3, round_test()) if word == "round" else big_rule(22, least_test())


def claim_rule(claim):
    """The rule of a claim."""
    need_claim(claim)
    if claim[0] in ("leader", "many", "balance", "sides", "odd"):
        return rule_of_signs(claim)
    return rule_of_picked(claim[0])
