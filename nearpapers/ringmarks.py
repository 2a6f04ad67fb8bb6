"""Marks for the houses of a ring."""

from nearpapers.walks import begun_walks, come_back, moved, start_lots, walk_back, width_for


def round_order(near):
    """The houses of a ring as they follow one another, from house 0 on."""
    order = [0]
    ahead = 0
    house = near[0][0]
    while house != 0:
        order.append(house)
        one, other = near[house]
        ahead, house = house, (one if other == ahead else other)
    return order


def ring_table(rows, near, ahead, marks):
    """Which pairs (own mark, mark behind) follow each pair (mark ahead, own mark) at a house."""
    table = [[] for _ in range(marks * marks)]
    for own, one, other in rows:
        first, last = (one, other) if near[0] == ahead else (other, one)
        table[first * marks + own].append(own * marks + last)
    return table


def ring_tables(rows, near, marks):
    """The order round a ring, and the tables of its houses, that of house 0 last."""
    order = round_order(near)
    tables = [ring_table(rows[house], near[house], order[at], marks) for at, house in enumerate(order[1:])]
    tables.append(ring_table(rows[0], near[0], order[-1], marks))
    return order, tables


def back_counts(tables, marks):
    """The list of the pairs (start, how many walks by all tables come back to it)."""
    width = width_for(tables)
    told = []
    for starts in start_lots([state for state in range(marks * marks) if tables[0][state]], width):
        counts = begun_walks(marks * marks, starts, width)
        for table in tables:
            counts = moved(counts, table)
        told.extend(list(zip(starts, come_back(counts, starts, width))))
    return told


def ring_many(rows, near, marks):
    """How many markings of a ring there are."""
    _, tables = ring_tables(rows, near, marks)
    return sum([number for _, number in back_counts(tables, marks)])


def ring_marks(rows, near, marks):
    """The marks of a ring, or None."""
    order, tables = ring_tables(rows, near, marks)
    for start, number in back_counts(tables, marks):
        if number > 0:
            states = walk_back(tables, start)
            placed = {house: states[at] // marks for at, house in enumerate(order)}
            return tuple([placed[house] for house in range(len(near))])
    return None
