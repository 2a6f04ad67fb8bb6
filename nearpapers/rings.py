"""How many rings of each length a book shows, with signs and papers."""

from nearpapers.errors import NoNumber
from nearpapers.plain import is_between
from nearpapers.walks import begun_walks, come_back, moved, start_lots, width_for

LEAST_RING = 3
LONGEST_RING = 40


def follow_table(book):
    """Which pairs of cells follow each pair of cells on a ring, a cell being a sign with a mark."""
    cells = book.signs * book.marks
    table = [[] for _ in range(cells * cells)]
    for sign, mark, near in book.looks:
        if len(near) == 2:
            own = sign * book.marks + mark
            one, other = [pair[0] * book.marks + pair[1] for pair in near]
            table[one * cells + own].append(own * cells + other)
            if one != other:
                table[other * cells + own].append(own * cells + one)
    return table


def starts_of(table, cells):
    """The pairs (times, starts): pairs of cells that walks begin with, and how often each is to be counted.

    A ring read backwards is a ring, so a pair of unlike cells stands for the turned pair, too.
    """
    alike = []
    unlike = []
    for one in range(cells):
        for other in range(one, cells):
            if table[one * cells + other]:
                starts = alike if one == other else unlike
                starts.append(one * cells + other)
    return ((1, alike), (2, unlike))


def ring_counts(book, most):
    """For each length from 3 to most how many rings with signs and papers there are to which all say yes."""
    if not is_between(LEAST_RING, LONGEST_RING, most):
        raise NoNumber()
    table = follow_table(book)
    width = width_for([table] * most)
    totals = [0] * (most + 1)
    for times, starts in starts_of(table, book.signs * book.marks):
        for lot in start_lots(starts, width):
            counts = begun_walks(len(table), lot, width)
            for length in range(1, most + 1):
                counts = moved(counts, table)
                totals[length] += times * sum(come_back(counts, lot, width))
    return tuple(totals[LEAST_RING:])
