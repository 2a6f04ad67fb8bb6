"""The looks by which marks tell the kinds of branches and, by thirds, which neighbour is the way up to a root."""

from nearpapers.bundles import place_of

THIRDS = 3


def rows_of_cells(cells, many):
    """The rows in order of so many cells, in which a cell may stand more than once."""
    rows = [()]
    for _ in range(many):
        rows = [(*row, cell) for row in rows for cell in cells if row == () or row[-1] <= cell]
    return rows


def cells_of_third(knower, third):
    """The ascending pairs (sign, mark) whose marks have a third."""
    return [(sign, THIRDS * kind + third) for sign in range(knower.signs) for kind in range(knower.kinds)]


def kinds_of(row):
    """The kinds, in order, that the marks of a row of cells tell."""
    return tuple(sorted([mark // THIRDS for _, mark in row]))


def looks_up(knower, third, hanging):
    """The looks of houses with a third that have a way up, rows of cells hanging on them."""
    above = cells_of_third(knower, (third + 2) % THIRDS)
    looks = []
    for row in hanging:
        place = place_of(knower.kinds, kinds_of(row))
        for sign in range(knower.signs):
            mark = THIRDS * knower.steps[sign][place] + third
            looks.extend([(sign, mark, tuple(sorted([*row, cell]))) for cell in above])
    return looks


def looks_of_root(knower, third, hanging):
    """The looks of roots with a third, rows of cells hanging on them."""
    known = {whole: True for whole in knower.wholes}
    return [(sign, third, row) for row in hanging for sign in range(knower.signs) if (sign, kinds_of(row)) in known]


def rooted_looks(knower):
    """All looks of the book of a knower, in no order."""
    looks = []
    for third in range(THIRDS):
        cells = cells_of_third(knower, (third + 1) % THIRDS)
        rows = [row for many in range(THIRDS + 1) for row in rows_of_cells(cells, many)]
        looks.extend(looks_up(knower, third, [row for row in rows if len(row) < THIRDS]))
        looks.extend(looks_of_root(knower, third, rows))
    return looks
