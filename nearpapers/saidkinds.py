"""The climbers of forms: what branches with marks for names are, for a form in which these names stand."""

from nearpapers.climbers import Climber, climber_by, grouped, part_of, reached


class SaidKinds:
    """The climber of a form; on houses stand a sign and names, each name being a bit.

    marks: for each label of the climber the pair (sign, bits of the names that stand on the house).
    full: the bits of all names of houses that stand in the form, each of which a tree has on just one house.
    """

    def __init__(self, marks, full, climber):
        self.marks = marks
        self.full = full
        self.climber = climber
        self.bits = marks[-1][1]
        self.places = {mark: label for label, mark in enumerate(marks)}

    def labels_for(self, marks):
        """For each of some other marks the label that is left of it here."""
        return [self.places[(sign, bits & self.bits)] for sign, bits in marks]

    def classes(self):
        """The pair (firsts, classes) of the kinds, those that no tree tells apart being one class.

        Only kinds that no tree makes true are kept apart by their masks, and then are one class.
        """
        return grouped(self.climber.ties)


def marks_for(signs, bits):
    """All pairs of a sign and some of the bits together, all of them in the last one."""
    lots = [0]
    for bit in bits:
        lots = [*lots, *[lot | bit for lot in lots]]
    return [(sign, lot) for sign in range(signs) for lot in lots]


def mask_of(state):
    """The bits of the names of houses that stand in a branch, as its state tells them first."""
    return state[0]


def fit(full, one, other):
    """Whether each name of a house stands on just one of two branches, whose masks these are."""
    return one & other == 0 and one | other == full


class AtomLooks:
    """When an atom of a word is true; x and y are the bits of its names, sign is what it asks of a house."""

    def __init__(self, word, x, y, sign):
        self.word = word
        self.x = x
        self.y = y
        self.sign = sign

    def seen_at(self, sign, bits):
        """Whether a house tells by itself that the atom is true."""
        if self.word == "sign":
            return bits & self.x == self.x and sign == self.sign
        if self.word == "in" or self.word == "same":
            return bits & (self.x | self.y) == self.x | self.y
        return self.word == "yes"

    def seen_across(self, one, other):
        """Whether two tied houses, with these bits, tell that the atom is true."""
        if self.word != "tie":
            return False
        return (one & self.x != 0 and other & self.y != 0) or (one & self.y != 0 and other & self.x != 0)


def atom_kinds(looks, marks, full):
    """The climber of an atom; a state is (names in the branch, names on its top, whether the atom is seen true)."""
    def step(label, one, other):
        sign, bits = marks[label]
        mask = bits & full
        good = looks.seen_at(sign, bits)
        for below in (one, other):
            if below is not None:
                if mask & below[0] != 0:
                    return None
                mask |= below[0]
                good = good or below[2] or looks.seen_across(bits & full, below[1])
        return (mask, bits & full, good)

    def tied(one, other):
        return fit(full, one[0], other[0]) and (one[2] or other[2] or looks.seen_across(one[1], other[1]))

    alone = [bits & full == full and looks.seen_at(sign, bits) for sign, bits in marks]
    # A name of a house twice in an atom is one name, so there are few states, whatever the atom.
    states = reached(len(marks), step, 1 << 8)
    return SaidKinds(marks, full, climber_by(step, states, mask_of, tied, alone))


def turned_kinds(said):
    """The climber of the form that says not."""
    climber = said.climber
    ties = []
    for mask, row in zip(climber.masks, climber.ties):
        whole = sum([1 << at for at, other in enumerate(climber.masks) if fit(said.full, mask, other)])
        ties.append(whole & ~row)
    alone = [bits & said.full == said.full and not flag for (_, bits), flag in zip(said.marks, climber.alone)]
    return SaidKinds(said.marks, said.full, Climber(climber.masks, climber.steps, ties, alone))


def joined_kinds(one, other, marks, full, most_false):
    """The climber of the form that says that more of two forms than most_false are true."""
    first = one.climber
    second = other.climber
    firsts = one.labels_for(marks)
    seconds = other.labels_for(marks)

    def step(label, low, high):
        kind = first.step(firsts[label], part_of(low, 0), part_of(high, 0))
        its = second.step(seconds[label], part_of(low, 1), part_of(high, 1))
        return None if kind is None or its is None else (kind, its)

    def mask(state):
        return first.masks[state[0]] | second.masks[state[1]]

    def tied(low, high):
        if not fit(full, mask(low), mask(high)):
            return False
        return first.tied(low[0], high[0]) + second.tied(low[1], high[1]) > most_false

    states = reached(len(marks), step, first.many * second.many)
    alone = []
    for label, pair in enumerate(marks):
        truths = first.alone[firsts[label]] + second.alone[seconds[label]]
        alone.append(pair[1] & full == full and truths > most_false)
    return SaidKinds(marks, full, climber_by(step, states, mask, tied, alone))
