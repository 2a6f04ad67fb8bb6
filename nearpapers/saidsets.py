"""The climbers of forms that tell a name: a branch is told by the set of kinds that it has by all ways to mark it."""

from nearpapers.climbers import climber_by, reached
from nearpapers.errors import TooMany
from nearpapers.saidkinds import SaidKinds, fit, mask_of

MOST_SETS = 200
MOST_UNLIKE = 20
MOST_MASKS = 16


def bits_in(lot):
    """The places of the bits of a lot, ascending."""
    return [at for at in range(lot.bit_length()) if (lot >> at) & 1 == 1]


class MarkedSets:
    """The sets of classes that branches have by all ways to mark a name in them; a state is (mask, set as bits).

    The name that is marked is the bit own, which is in full if it is that of a house. Of the classes of the inner
    form one at most is dead: it makes no tree true. No other one has branches with unlike names of houses.
    """

    def __init__(self, inner, marks, full, own):
        firsts, classes = inner.classes()
        self.inner = inner
        self.marks = marks
        self.full = full
        self.own = own
        self.firsts = firsts
        self.called = classes
        self.rows = []
        self.dead = 0
        for at, first in enumerate(firsts):
            row = inner.climber.ties[first]
            self.rows.append(sum([1 << to for to, other in enumerate(firsts) if (row >> other) & 1 == 1]))
            if row == 0:
                self.dead = 1 << at
        self.kept = {}

    def kinds_by(self, label, one, lot):
        """The classes of the branches on whose tops, of an inner label, one class and one of a lot of classes hang."""
        key = (label, one, lot)
        if key not in self.kept:
            told = 0
            climber = self.inner.climber
            low = -1 if one < 0 else self.firsts[one]
            for other in [-1] if lot is None else bits_in(lot & ~self.dead):
                kind = climber.step(label, low, -1 if other < 0 else self.firsts[other])
                if kind is not None:
                    told |= 1 << self.called[kind]
            self.kept[key] = told
        return self.kept[key]

    def step(self, label, one, other):
        """The state of the branch on whose top, of this label, branches of two states hang."""
        sign, bits = self.marks[label]
        mask = bits & self.full
        told = 0
        for below in (one, other):
            if below is not None:
                if mask & below[0] != 0:
                    return None
                mask |= below[0]
                # What is dead once is dead in whatever hangs above it.
                told |= below[1] & self.dead
        places = self.inner.places
        for its in (places[(sign, bits)], places[(sign, bits | self.own)]):
            for low in [-1] if one is None else bits_in(one[1] & ~self.dead):
                told |= self.kinds_by(its, low, None if other is None else other[1])
        return (mask, told)

    def some_tied(self, one, other):
        """Whether some way to mark the name in two tied branches makes the inner form true."""
        for low in bits_in(one[1]):
            if self.rows[low] & other[1] != 0:
                return True
        return False

    def every_tied(self, one, other):
        """Whether each way to mark the name in two tied branches, in one of them if it is a house's, does."""
        if (one[1] | other[1]) & self.dead != 0:
            return False
        masks = self.inner.climber.masks
        for low in bits_in(one[1]):
            for high in bits_in(other[1]):
                names = masks[self.firsts[low]], masks[self.firsts[high]]
                if fit(self.inner.full, names[0], names[1]) and (self.rows[low] >> high) & 1 == 0:
                    return False
        return fit(self.full, one[0], other[0])

    def alone_flags(self, every):
        """For each label whether a house alone is known."""
        told = []
        for sign, bits in self.marks:
            flags = [self.inner.climber.alone[self.inner.places[(sign, bits | self.own)]]]
            if self.own & self.inner.full == 0:
                flags.append(self.inner.climber.alone[self.inner.places[(sign, bits)]])
            told.append(all(flags) if every else any(flags))
        return told


def told_kinds(inner, marks, full, own, every):
    """The climber of the form that says that the inner form is true for some way, or for each way, to mark a name."""
    sets = MarkedSets(inner, marks, full, own)
    # One set alone, that of the dead class, can come with several masks.
    states = reached(len(marks), sets.step, MOST_SETS + MOST_MASKS)
    if len({state[1] for state in states}) > MOST_SETS:
        raise TooMany(MOST_UNLIKE)
    flags = sets.alone_flags(every)
    if every:
        return SaidKinds(marks, full, climber_by(sets.step, states, mask_of, sets.every_tied, flags))
    return SaidKinds(marks, full, climber_by(sets.step, states, mask_of, sets.some_tied, flags))
