"""Climbers: the unlike kinds that a machine which goes up trees comes to, whatever stands on the houses."""


class Climber:
    """What a machine tells of branches whose houses have labels; its kinds are numbered, all of them are had.

    masks: for each kind, as bits, which names of houses stand in its branches.
    steps: for (label, one, other) the kind of the branch whose top has this label and on which branches of these
    kinds hang; -1 is none, one is not above other; nothing is kept where a name would stand twice.
    ties: for each kind, as bits, with which kinds, top tied to top, it makes a tree that is known.
    alone: for each label whether a house alone is known.
    """

    def __init__(self, masks, steps, ties, alone):
        self.masks = masks
        self.steps = steps
        self.ties = ties
        self.alone = alone
        self.many = len(ties)
        self.labels = len(alone)

    def step(self, label, one, other):
        """The kind of a branch, None where there is no such branch."""
        low, high = (one, other) if one <= other else (other, one)
        return self.steps.get((label, low, high))

    def tied(self, one, other):
        """Whether branches of two kinds, top tied to top, make a tree that is known."""
        return (self.ties[one] >> other) & 1 == 1


def reached(labels, step, most):
    """The states that branches have, in the order in which they are met; more than most only by one round.

    step tells for a label and the states of what hangs on it, None being none, the state or None for no branch.
    """
    states = []
    met = {}
    pairs = [(None, None)]
    at = 0
    while pairs and len(states) <= most:
        for one, other in pairs:
            for label in range(labels):
                state = step(label, one, other)
                if state is not None and state not in met:
                    met[state] = True
                    states.append(state)
        pairs = []
        if at < len(states):
            pairs = [(None, states[at]), *[(one, states[at]) for one in states[:at + 1]]]
            at += 1
    return states


def rows_of(states, tied):
    """For each state, as bits, with which states, by their places, it is tied to a known tree."""
    rows = [0] * len(states)
    for at, one in enumerate(states):
        for to in range(at + 1):
            if tied(one, states[to]):
                rows[at] |= 1 << to
                rows[to] |= 1 << at
    return rows


def grouped(keys):
    """The pair (firsts, classes): the place of the first of each class of equal keys, and the class of each key."""
    called = {}
    firsts = []
    classes = []
    for at, key in enumerate(keys):
        if key not in called:
            called[key] = len(firsts)
            firsts.append(at)
        classes.append(called[key])
    return firsts, classes


def picked_bits(row, places):
    """The bits of a row that stand at some places, moved together."""
    told = 0
    for at, place in enumerate(places):
        told |= ((row >> place) & 1) << at
    return told


def climber_by(step, states, mask, tied, alone):
    """The climber of all states that branches have, those of one mask and alike in each tree being one kind.

    What lies above a branch is a branch, too: so the rows of ties alone tell which states are alike.
    """
    rows = rows_of(states, tied)
    firsts, classes = grouped([(mask(state), row) for state, row in zip(states, rows)])
    called = {state: classes[at] for at, state in enumerate(states)}
    held = [states[at] for at in firsts]
    tops = [(-1, None), *list(enumerate(held))]
    steps = {}
    for place, (high, other) in enumerate(tops):
        for low, one in tops[:place + 1]:
            for label in range(len(alone)):
                state = step(label, one, other)
                if state is not None:
                    steps[(label, low, high)] = called[state]
    return Climber([mask(state) for state in held], steps, [picked_bits(rows[at], firsts) for at in firsts], alone)


def no_mask(state):
    """The mask of states of branches on which no names stand."""
    return 0


def part_of(state, at):
    """One part of a state that is a pair, -1 for no state."""
    return -1 if state is None else state[at]


def pair_step(one, other):
    """The step of pairs of kinds of two climbers with the same labels, no names standing on the houses."""
    def step(label, low, high):
        first = one.step(label, part_of(low, 0), part_of(high, 0))
        return (first, other.step(label, part_of(low, 1), part_of(high, 1)))

    return step
