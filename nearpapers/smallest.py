"""The form of a tree of the fewest houses that a machine knows, the least of these."""

from heapq import heappop, heappush


class Growth:
    """Branches of the fewest houses of each state, the smaller ones first, the least form of each.

    In a tree of the fewest houses each branch has the fewest that its state lets, and the least form of these:
    another one in its place would make the tree smaller, or its form less.
    """

    def __init__(self, labels, step, tied, most):
        self.labels = labels
        self.give = step
        self.bound = tied
        self.states = []
        self.sizes = []
        self.forms = []
        self.ways = []
        self.called = {}
        self.waiting = [(1, -1, -1)]
        self.fewest = most + 1

    def forms_at(self, places):
        """The forms of the branches at some places, -1 being none, in order."""
        return tuple(sorted([self.forms[place] for place in places if place >= 0]))

    def state_at(self, place):
        """The state at a place, None for -1."""
        return None if place < 0 else self.states[place]

    def next_ways(self, size):
        """For each state not met with fewer houses the ways (label, one, other) to it with so many."""
        give = self.give
        found = {}
        while self.waiting and self.waiting[0][0] == size:
            _, one, other = heappop(self.waiting)
            for label in range(self.labels):
                state = give(label, self.state_at(one), self.state_at(other))
                if state not in self.called:
                    found.setdefault(state, []).append((label, one, other))
        return found

    def take(self, state, size, ways):
        """A state that is met: what it is tied to, and what it is put together with."""
        bound = self.bound
        at = len(self.states)
        self.called[state] = at
        self.states.append(state)
        self.sizes.append(size)
        self.ways.append(ways)
        self.forms.append(min([(label, self.forms_at((one, other))) for label, one, other in ways]))
        heappush(self.waiting, (size + 1, -1, at))
        for place, other in enumerate(self.states):
            if size + self.sizes[place] < self.fewest and bound(state, other):
                self.fewest = size + self.sizes[place]
        for place, its in enumerate(self.sizes):
            if size + its + 1 < self.fewest:
                heappush(self.waiting, (size + its + 1, place, at))

    def grow(self):
        """Meets all states that a tree of the fewest houses can have."""
        while self.waiting and self.waiting[0][0] < self.fewest:
            size = self.waiting[0][0]
            for state, ways in list(self.next_ways(size).items()):
                self.take(state, size, ways)

    def whole_forms(self):
        """The forms of trees of the fewest houses, hung up at any house; the least one is among them."""
        bound = self.bound
        told = []
        for place, state in enumerate(self.states):
            for last, other in enumerate(self.states):
                if self.sizes[place] + self.sizes[last] == self.fewest and bound(state, other):
                    told.append(min([(label, self.forms_at((one, two, last))) for label, one, two in self.ways[place]]))
        return told


def smallest_form(step, tied, alone, most):
    """The least form of a known tree of the fewest houses, None if that has more than most."""
    for label, flag in enumerate(alone):
        if flag:
            return (label, ())
    growth = Growth(len(alone), step, tied, most)
    growth.grow()
    return None if growth.fewest > most else min(growth.whole_forms())
