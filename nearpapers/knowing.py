"""Knowers led into climbers, which are least, and climbers into knowers."""

from nearpapers.bundles import place_of, small_bundles
from nearpapers.climbers import climber_by, grouped, no_mask, reached, rows_of
from nearpapers.knowers import Knower, with_kind


def big_knower(signs, kinds, steps, wholes):
    """A knower that the package itself puts together: its kinds are not bounded, nor is it checked."""
    knower = Knower(1, 1, ((0, 0, 0),), ())
    knower.signs = signs
    knower.kinds = kinds
    knower.steps = steps
    knower.wholes = wholes
    return knower


def knower_step(knower):
    """The step of a knower's kinds."""
    def step(label, one, other):
        bundle = tuple(sorted([below for below in (one, other) if below is not None]))
        return knower.steps[label][place_of(knower.kinds, bundle)]

    return step


def branches_of(knower, had):
    """For each kind of those that branches have a pair (sign, bundle) that tells such a branch."""
    told = {}
    for sign in range(knower.signs):
        for bundle in small_bundles(had):
            told.setdefault(knower.steps[sign][place_of(knower.kinds, bundle)], (sign, bundle))
    return told


def knower_tied(knower, had):
    """The function that tells of two kinds that branches have whether they, tied, make a known tree."""
    branches = branches_of(knower, had)
    known = {whole: True for whole in knower.wholes}

    def tied(one, other):
        sign, bundle = branches[one]
        return (sign, with_kind(bundle, other)) in known

    return tied


def had_kinds(knower):
    """The ascending list of the kinds that branches have."""
    return sorted(reached(knower.signs, knower_step(knower), knower.kinds))


def least_kinds(knower):
    """The kinds that branches have, of those that are alike only the least."""
    had = had_kinds(knower)
    firsts, _ = grouped(rows_of(had, knower_tied(knower, had)))
    return [had[at] for at in firsts]


def climber_of(knower):
    """The climber of a knower, which has as few kinds as any."""
    had = had_kinds(knower)
    alone = [(sign, ()) in knower.wholes for sign in range(knower.signs)]
    return climber_by(knower_step(knower), had, no_mask, knower_tied(knower, had), alone)


def step_on(climber, sign, bundle):
    """The kind of the branch whose top has a sign and on which the kinds of a small bundle hang."""
    low = bundle[0] if len(bundle) == 2 else -1
    high = bundle[-1] if bundle else -1
    return climber.step(sign, low, high)


def known_bundles(climber, sign):
    """The ascending list of the bundles with which a sign makes a known tree."""
    told = [()] if climber.alone[sign] else []
    for rest in small_bundles(list(range(climber.many))):
        row = climber.ties[step_on(climber, sign, rest)]
        # Each bundle comes once: the kind that is left over is its greatest.
        least_last = rest[-1] if rest else 0
        told.extend([(*rest, last) for last in range(least_last, climber.many) if (row >> last) & 1 == 1])
    return sorted(told)


def knower_from(climber):
    """The knower of a climber on whose houses signs alone stand."""
    bundles = small_bundles(list(range(climber.many)))
    steps = []
    wholes = []
    for sign in range(climber.labels):
        steps.append(tuple([step_on(climber, sign, bundle) for bundle in bundles]))
        wholes.extend([(sign, bundle) for bundle in known_bundles(climber, sign)])
    return big_knower(climber.labels, climber.many, tuple(steps), tuple(wholes))
