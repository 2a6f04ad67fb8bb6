"""Trees hung up at a house."""


def hung_order(near, root):
    """The pair (order, ups) of a tree hung up at its root: each house stands behind the one above it.

    ups tells for each house the one above it, -1 for the root.
    """
    ups = [-1] * len(near)
    order = []
    waiting = [root]
    while waiting:
        house = waiting.pop()
        order.append(house)
        for other in near[house]:
            if other != ups[house]:
                ups[other] = house
                waiting.append(other)
    return order, ups


def hanging_on(near, ups, house):
    """The houses that hang on a house, ascending."""
    return [other for other in near[house] if other != ups[house]]
