"""Knowers turned, and two knowers joined to one."""

from nearpapers.climbers import Climber, climber_by, no_mask, pair_step, reached
from nearpapers.errors import OtherSigns, TooMany
from nearpapers.knowing import climber_of, knower_from

MOST_KINDS = 24


def turned(knower):
    """A knower of just the trees that a knower does not know."""
    if knower.kinds > MOST_KINDS:
        raise TooMany(MOST_KINDS)
    climber = climber_of(knower)
    every = (1 << climber.many) - 1
    ties = [every ^ row for row in climber.ties]
    return knower_from(Climber(climber.masks, climber.steps, ties, [not flag for flag in climber.alone]))


def joined(one, other, most_false):
    """A knower of the trees that more of the two know than let a tree be unknown."""
    if one.signs != other.signs:
        raise OtherSigns()
    if one.kinds > MOST_KINDS or other.kinds > MOST_KINDS:
        raise TooMany(MOST_KINDS)
    first = climber_of(one)
    second = climber_of(other)

    def tied(low, high):
        return first.tied(low[0], high[0]) + second.tied(low[1], high[1]) > most_false

    step = pair_step(first, second)
    states = reached(one.signs, step, first.many * second.many)
    alone = [flag + also > most_false for flag, also in zip(first.alone, second.alone)]
    climber = climber_by(step, states, no_mask, tied, alone)
    if climber.many > MOST_KINDS:
        raise TooMany(MOST_KINDS)
    return knower_from(climber)


def both(one, other):
    """A knower of the trees that both know."""
    return joined(one, other, 1)


def either(one, other):
    """A knower of the trees that one of two at least knows."""
    return joined(one, other, 0)
