"""What the looks of a book let stand on a house and its neighbours together."""

from itertools import permutations


def grouped_looks(book):
    """The looks of a book by the pair of the sign and the tuple of the neighbours' signs, in order."""
    groups = {}
    for sign, mark, near in book.looks:
        signs = tuple([pair[0] for pair in near])
        groups.setdefault((sign, signs), []).append((mark, near))
    return groups


def rows_of_pattern(groups, sign, signs):
    """The rows (own mark, neighbours' marks) that are let for a sign and the neighbours' signs."""
    rows = {}
    for mark, near in groups.get((sign, tuple(sorted(signs))), []):
        pairs = list(near)
        for placed in permutations(pairs):
            if tuple([pair[0] for pair in placed]) == signs:
                row = (mark, *[pair[1] for pair in placed])
                rows[row] = True
    return list(rows)


def house_rows(book, web, near):
    """For each house the rows (own mark, its neighbours' marks as they stand in near) that are let."""
    groups = grouped_looks(book)
    kept = {}
    told = []
    for house in range(web.many):
        sign = web.signs[house]
        signs = tuple([web.signs[other] for other in near[house]])
        if (sign, signs) not in kept:
            kept[(sign, signs)] = rows_of_pattern(groups, sign, signs)
        told.append(kept[(sign, signs)])
    return told
