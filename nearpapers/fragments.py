"""Papers by which all see that the picked ties make the lightest tree: parts of it that grow together."""

from nearpapers.webs import near_rows, steps_from
from nearpapers.worldparts import ranked_ties

LEVELS = 5


def part_roots(near):
    """For each house the least house that one comes to over the ties of near."""
    told = []
    for house in range(len(near)):
        told.append([other for other, far in enumerate(steps_from(near, house)) if far >= 0][0])
    return told


def lightest_out(world, roots):
    """For each root the pair (rank, number) of the lightest tie from its part to another one, if there is one."""
    told = {}
    for pair in ranked_ties(world):
        one, other, _ = world.web.ties[pair[1]]
        if roots[one] != roots[other]:
            told.setdefault(roots[one], pair)
            told.setdefault(roots[other], pair)
    return told


def least_papers(world):
    """Papers of the numbers of the parts at each level, then the ranks of the ties by which parts of a level grow."""
    web = world.web
    parts = [() for _ in world.names]
    ranks = [() for _ in world.names]
    kept = []
    for level in range(LEVELS):
        near = near_rows(web.many, sorted([web.ties[at] for at in kept]))
        roots = part_roots(near)
        fars = [steps_from(near, root)[house] for house, root in enumerate(roots)]
        parts = [(*row, world.names[root], far) for row, root, far in zip(parts, roots, fars)]
        if level < LEVELS - 1:
            out = lightest_out(world, roots)
            # Where one part is left there is no way out, and any rank will do.
            ranks = [(*row, *out.get(root, ((0, 0, 0), -1))[0]) for row, root in zip(ranks, roots)]
            kept = sorted(set([*kept, *[at for _, at in out.values()]]))
    return [(*part, *rank) for part, rank in zip(parts, ranks)]
