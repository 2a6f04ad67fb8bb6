"""Claims about worlds with names: whether they are true; and how long papers are."""

from nearpapers.claimwords import need_claim, need_small_named
from nearpapers.errors import NoPapers
from nearpapers.worldparts import covering, is_pairing, is_picked_ring, is_spanning, lengths_from, lightest
from nearpapers.worldparts import most_paired, one_with_sign, picked_lengths, tie_on_one_side
from nearpapers.worlds import World, is_papers

MOST_PAPERS = 100


def is_balance(world):
    """Whether as many houses have sign 1 as have sign 2."""
    return world.web.signs.count(1) == world.web.signs.count(2)


def is_most_pairing(world):
    """Whether the picked ties are a pairing, and none has more."""
    return is_pairing(world) and len(world.picked) == most_paired(world.web)


def is_nearest(world):
    """Whether the picked ties make a tree of lightest ways to the only house with sign 1."""
    house = one_with_sign(world)
    return house >= 0 and is_spanning(world) and picked_lengths(world, house) == lengths_from(world.web, house)


def is_of_signs(word, world):
    """Whether a claim is true that is about signs and ties alone."""
    if word == "leader":
        return one_with_sign(world) >= 0
    if word == "balance":
        return is_balance(world)
    return (tie_on_one_side(world) is None) == (word == "sides")


def is_of_picked(word, world):
    """Whether a claim is true that is about picked ties."""
    if word == "tree":
        return is_spanning(world)
    if word == "cover":
        return is_pairing(world) and covering(world) is not None
    if word == "pairing":
        return is_most_pairing(world)
    if word == "nearest":
        return is_nearest(world)
    return is_picked_ring(world) if word == "round" else world.picked == lightest(world)


def is_true(claim, world):
    """Whether a claim is true of a world with names; of what is no world none is."""
    need_claim(claim)
    if not isinstance(world, World):
        return False
    need_small_named(world)
    if claim[0] == "many":
        return world.web.many == claim[1]
    if claim[0] in ("leader", "balance", "sides", "odd"):
        return is_of_signs(claim[0], world)
    return is_of_picked(claim[0], world)


def greatest_in(paper):
    """The greatest number in a paper, -1 if there is none."""
    if isinstance(paper, tuple):
        return max([-1, *[greatest_in(item) for item in paper]])
    return -1 if paper is None else paper


def digits_of(papers):
    """How many binary digits the greatest number in papers has, 0 if they hold none."""
    if not isinstance(papers, tuple) or not 1 <= len(papers) <= MOST_PAPERS or not is_papers(len(papers), papers):
        raise NoPapers()
    greatest = greatest_in(papers)
    return 0 if greatest < 0 else max(1, greatest.bit_length())
