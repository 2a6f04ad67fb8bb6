"""Marks for the houses of a tree."""

from nearpapers.hanging import hung_order


def branch_table(rows, near, up, tables):
    """How many markings a branch has for each pair of its top's mark and the mark above, -1 above the root."""
    table = {}
    for row in rows:
        above = -1
        number = 1
        for at, other in enumerate(near):
            if other == up:
                above = row[at + 1]
            else:
                number *= tables[other].get((row[at + 1], row[0]), 0)
        if number > 0:
            table[(row[0], above)] = table.get((row[0], above), 0) + number
    return table


def branch_tables(rows, near, order, ups):
    """The tables of all branches of a tree that is hung up as order and ups tell."""
    tables = [{} for _ in near]
    for house in reversed(order):
        tables[house] = branch_table(rows[house], near[house], ups[house], tables)
    return tables


def tree_many(rows, near):
    """How many markings of a tree there are."""
    order, ups = hung_order(near, 0)
    return sum(branch_tables(rows, near, order, ups)[0].values())


def fits_down(row, near, up, above, tables):
    """Whether a row of a house agrees with the mark above and can be gone on with below."""
    for at, other in enumerate(near):
        if other == up:
            if row[at + 1] != above:
                return False
        elif (row[at + 1], row[0]) not in tables[other]:
            return False
    return True


def tree_marks(rows, near):
    """The marks of a tree, or None."""
    order, ups = hung_order(near, 0)
    tables = branch_tables(rows, near, order, ups)
    if not tables[0]:
        return None
    marks = {0: list(tables[0])[0][0]}
    for house in order:
        up = ups[house]
        above = marks.get(up, -1)
        for row in rows[house]:
            if row[0] == marks[house] and fits_down(row, near[house], up, above, tables):
                for at, other in enumerate(near[house]):
                    marks[other] = row[at + 1]
                break
    return tuple([marks[house] for house in range(len(near))])
