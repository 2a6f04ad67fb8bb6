"""Branches of knowers: which kinds are unlike, which trees part two knowers, which are known."""

from nearpapers.climbers import pair_step, reached
from nearpapers.errors import OtherSigns, TooMany
from nearpapers.forms import planted, trees
from nearpapers.knowers import knows
from nearpapers.knowing import climber_of, knower_from, least_kinds
from nearpapers.smallest import smallest_form

MOST_HOUSES = 60


def alike_pairs(first, second):
    """The pairs of kinds of two climbers that the same branches have, None if they know unlike trees."""
    if first.many != second.many or first.alone != second.alone:
        return None
    # Two climbers that know the same trees have as many kinds, and each kind stands in one pair alone.
    pairs = reached(first.labels, pair_step(first, second), first.many)
    if len(pairs) != first.many:
        return None
    for one, other in pairs:
        if [first.tied(one, low) for low, _ in pairs] != [second.tied(other, high) for _, high in pairs]:
            return None
    return pairs


def smallest_parting(first, second):
    """The form of the tree that parts two climbers, or None."""
    if alike_pairs(first, second) is not None:
        return None

    def tied(low, high):
        return first.tied(low[0], high[0]) != second.tied(low[1], high[1])

    alone = [flag != also for flag, also in zip(first.alone, second.alone)]
    told = smallest_form(pair_step(first, second), tied, alone, MOST_HOUSES)
    if told is None:
        raise TooMany(MOST_HOUSES)
    return told


def parting(one, other):
    """The form of a tree of the fewest houses that just one of two knowers knows, the least of these, or None."""
    if one.signs != other.signs:
        raise OtherSigns()
    return smallest_parting(climber_of(one), climber_of(other))


def alike(one, other):
    """Whether two knowers know the same trees."""
    if one.signs != other.signs:
        raise OtherSigns()
    return alike_pairs(climber_of(one), climber_of(other)) is not None


def first_known(knower):
    """The form of a tree of the fewest houses that a knower knows, the least of these, or None."""
    climber = climber_of(knower)
    if max(climber.ties) == 0 and True not in climber.alone:
        return None

    def step(label, one, other):
        return climber.step(label, -1 if one is None else one, -1 if other is None else other)

    told = smallest_form(step, climber.tied, climber.alone, MOST_HOUSES)
    if told is None:
        raise TooMany(MOST_HOUSES)
    return told


def least(knower):
    """A knower alike to a knower, of as few kinds as any."""
    return knower_from(climber_of(knower))


def unlike_kinds(knower):
    """The lot of the kinds that branches have, of those that are alike only the least."""
    return tuple(least_kinds(knower))


def matching(one, other):
    """For each kind of a least knower the kind of another least one that the same branches have, or None."""
    if one.signs != other.signs:
        raise OtherSigns()
    if len(least_kinds(one)) != one.kinds or len(least_kinds(other)) != other.kinds:
        return None
    # All kinds are had and none are alike: so the kinds of both climbers are, in this order, those of the knowers.
    pairs = alike_pairs(climber_of(one), climber_of(other))
    return None if pairs is None else tuple([high for _, high in sorted(pairs)])


def known(knower, many):
    """The ascending tuple of the forms of the trees of so many houses that a knower knows."""
    return tuple([form for form in trees(knower.signs, many) if knows(knower, planted(form))])
