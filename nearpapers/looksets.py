"""The sets of branches by a book: what marks a branch can have below each house with each mark."""

from nearpapers.climbers import climber_by, no_mask, reached
from nearpapers.errors import TooMany

MOST_SETS = 60


class LookSets:
    """How the looks of a book lead from the sets of branches to the set of the branch that they make.

    A cell is a sign with a mark, as one number. A set is the pair of the sign of the top and a number that has the
    bit mark * cells + above for each mark of the top that goes with the cell above it.
    """

    def __init__(self, book):
        self.marks = book.marks
        self.cells = book.signs * book.marks
        self.above = cells_above(book)
        self.below = {}

    def hanging_cells(self, branch, own):
        """The cells that the top of a branch can have below a house with a cell, [-1] for no branch."""
        if branch is None:
            return [-1]
        if branch not in self.below:
            sign, told = branch
            tops = [(sign * self.marks + mark, told >> (mark * self.cells)) for mark in range(self.marks)]
            self.below[branch] = [[top for top, row in tops if (row >> cell) & 1 == 1] for cell in range(self.cells)]
        return self.below[branch][own]

    def step(self, sign, one, other):
        """The set of the branch on whose top, of this sign, branches of these sets hang."""
        told = 0
        for mark in range(self.marks):
            own = sign * self.marks + mark
            row = 0
            for low in self.hanging_cells(one, own):
                for high in self.hanging_cells(other, own):
                    row |= self.above.get((own, min(low, high), max(low, high)), 0)
            told |= row << (mark * self.cells)
        return (sign, told)

    def tied(self, one, other):
        """Whether the tops of two branches can have marks that go together."""
        for own in range(one[0] * self.marks, (one[0] + 1) * self.marks):
            for cell in self.hanging_cells(other, own):
                if own in self.hanging_cells(one, cell):
                    return True
        return False


def cell_of(book, pair):
    """The number of a sign with a mark."""
    return pair[0] * book.marks + pair[1]


def cells_above(book):
    """For (own, low, high) the cells, as bits, that may be above a house on which cells low and high hang.

    A cell of -1 is none.
    """
    told = {}
    for sign, mark, near in book.looks:
        cells = [cell_of(book, pair) for pair in near]
        for at, cell in enumerate(cells):
            rest = [-1, -1, *cells[:at], *cells[at + 1:]]
            key = (cell_of(book, (sign, mark)), rest[-2], rest[-1])
            told[key] = told.get(key, 0) | (1 << cell)
    return told


def book_climber(book):
    """The climber of the trees that a book shows."""
    sets = LookSets(book)
    states = reached(book.signs, sets.step, MOST_SETS)
    if len(states) > MOST_SETS:
        raise TooMany(MOST_SETS)
    alone = [False] * book.signs
    for sign, _, near in book.looks:
        alone[sign] = alone[sign] or near == ()
    return climber_by(sets.step, states, no_mask, sets.tied, alone)
