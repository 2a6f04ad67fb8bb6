"""Papers by which all see that no pairing has more ties than the picked one."""

from nearpapers.webs import near_lists, near_rows, steps_from
from nearpapers.worldparts import Pairings, picked_near


def lots_of(world):
    """For each house its lot: 1 where some greatest pairing leaves it out, 0 beside such a house, else 2."""
    web = world.web
    pairings = Pairings(web)
    every = (1 << web.many) - 1
    most = pairings.most_of(every)
    spared = [pairings.most_of(every ^ (1 << house)) == most for house in range(web.many)]
    told = []
    for house, row in enumerate(near_lists(web)):
        if spared[house]:
            told.append(1)
        else:
            told.append(0 if any([spared[other] for other in row]) else 2)
    return told


def pairing_papers(world):
    """Papers (lot, root, far); each part of lot 1 has one house that is not paired within it, its root."""
    lots = lots_of(world)
    many = world.web.many
    near = near_rows(many, [tie for tie in world.web.ties if lots[tie[0]] == 1 and lots[tie[1]] == 1])
    picked = picked_near(world)
    told = [(lot, 0, 0) for lot in lots]
    for house in range(many):
        if lots[house] == 1 and not any([lots[other] == 1 for other in picked[house]]):
            for other, far in enumerate(steps_from(near, house)):
                if far >= 0:
                    told[other] = (1, world.names[house], far)
    return told
