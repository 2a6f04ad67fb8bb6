"""Papers to which all say yes by the rules of claims that are true."""

from nearpapers.claims import is_true
from nearpapers.errors import NotTrue
from nearpapers.fragments import least_papers
from nearpapers.hanging import hung_order
from nearpapers.pairingpapers import pairing_papers
from nearpapers.webs import near_lists, near_rows, steps_from
from nearpapers.worldparts import covering, lengths_from, one_with_sign, picked_near, side_row, tie_on_one_side


def rooted(world, near, root):
    """For each house the pair (name of the root, over how few ties of near one comes to it)."""
    return [(world.names[root], far) for far in steps_from(near, root)]


def leader_papers(world):
    """Papers that lead to the house with sign 1."""
    return rooted(world, near_lists(world.web), one_with_sign(world))


def tree_papers(world):
    """Papers that hang the picked tree up."""
    return rooted(world, picked_near(world), 0)


def summed(world, amounts):
    """For each house (root, far, up) on a tree of fewest ties, and the sums of the amounts of what hangs there."""
    near = near_lists(world.web)
    order, ups = hung_order(tree_of_steps(near), 0)
    sums = [list(row) for row in amounts]
    for house in reversed(order[1:]):
        sums[ups[house]] = [one + other for one, other in zip(sums[ups[house]], sums[house])]
    told = []
    for house, pair in enumerate(rooted(world, near, 0)):
        up = house if house == 0 else ups[house]
        told.append((*pair, world.names[up], *sums[house]))
    return told


def tree_of_steps(near):
    """The neighbours on a tree on which each house comes to house 0 over as few ties as in the web."""
    far = steps_from(near, 0)
    ties = []
    for house, row in enumerate(near):
        if house > 0:
            ties.append((house, [other for other in row if far[other] == far[house] - 1][0], 0))
    return near_rows(len(near), ties)


def balance_papers(world):
    """Papers that count signs 1 and 2."""
    return summed(world, [(1 if sign == 1 else 0, 1 if sign == 2 else 0) for sign in world.web.signs])


def way_up(ups, house):
    """The houses from a house up to the root."""
    told = [house]
    while ups[told[-1]] >= 0:
        told.append(ups[told[-1]])
    return told


def odd_ring(world):
    """The houses of an odd ring, as they follow one another."""
    near = near_lists(world.web)
    one, other = tie_on_one_side(world)
    _, ups = hung_order(tree_of_steps(near), 0)
    first, second = way_up(ups, one), way_up(ups, other)
    # Both ways meet in one house and go on together: that house closes the ring.
    meeting = [house for house in first if house in second][0]
    return first[:first.index(meeting) + 1] + second[:second.index(meeting)][::-1]


def odd_papers(world):
    """Papers that lead to a house of an odd ring, and tell the places on the ring from it on."""
    ring = odd_ring(world)
    pairs = rooted(world, near_lists(world.web), ring[0])
    return [(*pair, ring.index(house) + 1 if house in ring else 0) for house, pair in enumerate(pairs)]


def nearest_papers(world):
    """Papers that hang the picked tree up at the house with sign 1, with the lengths of the ways."""
    house = one_with_sign(world)
    pairs = rooted(world, picked_near(world), house)
    return [(*pair, length) for pair, length in zip(pairs, lengths_from(world.web, house))]


def round_papers(world):
    """Papers that tell the places on the picked ring."""
    near = picked_near(world)
    ring = [0, near[0][0]]
    while len(ring) < world.web.many:
        one, other = near[ring[-1]]
        ring.append(other if one == ring[-2] else one)
    places = {house: at for at, house in enumerate(ring)}
    return [(world.names[0], world.web.many, places[house]) for house in range(world.web.many)]


def papers_of_signs(word, world):
    """Papers for a true claim about signs and ties alone."""
    if word == "leader":
        return leader_papers(world)
    if word == "many":
        return summed(world, [(1,) for _ in world.names])
    if word == "balance":
        return balance_papers(world)
    return [(side,) for side in side_row(world)] if word == "sides" else odd_papers(world)


def papers_of_picked(word, world):
    """Papers for a true claim about picked ties."""
    if word == "tree":
        return tree_papers(world)
    if word == "cover":
        return [(inside,) for inside in covering(world)]
    if word == "pairing":
        return pairing_papers(world)
    if word == "nearest":
        return nearest_papers(world)
    return round_papers(world) if word == "round" else least_papers(world)


def papers_for(claim, world):
    """Papers to which all say yes by the rule of a claim that is true of a world with names."""
    if not is_true(claim, world):
        raise NotTrue()
    if claim[0] in ("leader", "many", "balance", "sides", "odd"):
        return tuple(papers_of_signs(claim[0], world))
    return tuple(papers_of_picked(claim[0], world))
