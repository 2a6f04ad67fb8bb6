"""What claims ask of a world: its picked ties, its ways, its pairings."""

from nearpapers.hanging import hung_order
from nearpapers.webs import near_lists, near_rows, steps_from


def picked_ties(world):
    """The picked ties, ascending."""
    return [world.web.ties[at] for at in world.picked]


def picked_near(world):
    """For each house the ascending list of its picked neighbours."""
    return near_rows(world.web.many, picked_ties(world))


def is_spanning(world):
    """Whether the picked ties alone are ties of a tree of all houses."""
    return len(world.picked) == world.web.many - 1 and -1 not in steps_from(picked_near(world), 0)


def is_pairing(world):
    """Whether no house has two picked ties."""
    return all([len(row) <= 1 for row in picked_near(world)])


def is_picked_ring(world):
    """Whether the picked ties are those of one ring of all houses."""
    near = picked_near(world)
    return world.web.many >= 3 and all([len(row) == 2 for row in near]) and -1 not in steps_from(near, 0)


def one_with_sign(world):
    """The only house that has sign 1, -1 if not just one has."""
    houses = [house for house, sign in enumerate(world.web.signs) if sign == 1]
    return houses[0] if len(houses) == 1 else -1


def side_row(world):
    """For each house over an even or an odd number of ties, 0 or 1, house 0 is reached in the fewest steps."""
    return [far & 1 for far in steps_from(near_lists(world.web), 0)]


def tie_on_one_side(world):
    """The first tie whose houses are on one side, None if each goes from one to the other."""
    sides = side_row(world)
    for one, other, _ in world.web.ties:
        if sides[one] == sides[other]:
            return (one, other)
    return None


def covering(world):
    """For each house 1 or 0, so that each tie has a house with 1, just one house of each picked tie; or None."""
    ties = picked_ties(world)
    for choice in range(1 << len(ties)):
        told = [0] * world.web.many
        for at, (one, other, _) in enumerate(ties):
            told[other if (choice >> at) & 1 == 1 else one] = 1
        if all([told[one] + told[other] > 0 for one, other, _ in world.web.ties]):
            return told
    return None


class Pairings:
    """How many ties pairings of some of the houses of a web have at most."""

    def __init__(self, web):
        self.near = near_lists(web)
        self.kept = {0: 0}

    def most_of(self, houses):
        """The most ties of a pairing of some houses, told as bits."""
        if houses not in self.kept:
            first = houses.bit_length() - 1
            rest = houses ^ (1 << first)
            told = self.most_of(rest)
            for other in self.near[first]:
                if (rest >> other) & 1 == 1:
                    told = max(told, 1 + self.most_of(rest ^ (1 << other)))
            self.kept[houses] = told
        return self.kept[houses]


def most_paired(web):
    """The most ties that a pairing of a web has."""
    return Pairings(web).most_of((1 << web.many) - 1)


def weight_between(web):
    """For each pair of tied houses, both ways round, the weight of the tie."""
    told = {}
    for one, other, weight in web.ties:
        told[(one, other)] = weight
        told[(other, one)] = weight
    return told


def lengths_from(web, house):
    """For each house the weight of the lightest ways to it from a house."""
    told = [-1] * web.many
    told[house] = 0
    # A lightest way has fewer ties than there are houses.
    for _ in range(web.many):
        for one, other, weight in web.ties:
            for start, end in ((one, other), (other, one)):
                if told[start] >= 0 and (told[end] < 0 or told[start] + weight < told[end]):
                    told[end] = told[start] + weight
    return told


def picked_lengths(world, house):
    """For each house the weight of the way over picked ties, those of a tree of all houses, from a house."""
    near = picked_near(world)
    weights = weight_between(world.web)
    order, ups = hung_order(near, house)
    told = [0] * world.web.many
    for other in order[1:]:
        told[other] = told[ups[other]] + weights[(ups[other], other)]
    return told


def rank(world, tie):
    """What orders the ties of a world with names: the weight, then the lesser name, then the greater."""
    one, other = world.names[tie[0]], world.names[tie[1]]
    return (tie[2], min(one, other), max(one, other))


def ranked_ties(world):
    """The pairs (rank, number) of all ties, the lightest first."""
    return sorted([(rank(world, tie), at) for at, tie in enumerate(world.web.ties)])


def lightest(world):
    """The lot of the numbers of the ties of the lightest tree of all houses."""
    parts = list(range(world.web.many))
    told = []
    for _, at in ranked_ties(world):
        one, other, _ = world.web.ties[at]
        if parts[one] != parts[other]:
            told.append(at)
            left, kept = parts[one], parts[other]
            parts = [kept if part == left else part for part in parts]
    return tuple(sorted(told))
