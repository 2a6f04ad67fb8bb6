"""Closed walks, counted by tables that tell for each state the list of the states behind it."""

MOST_BITS = 2900


def width_for(tables):
    """How many bits hold the number of walks by all tables from one state to another one."""
    most = 1
    for table in tables:
        most *= max([1, *[len(row) for row in table]])
    return most.bit_length()


def begun_walks(size, starts, width):
    """For each state the walks of no step: those of start k are counted from bit k * width on.

    Many starts are counted side by side in one integer, since that costs as much as one of them.
    """
    counts = [0] * size
    for at, start in enumerate(starts):
        counts[start] = 1 << (width * at)
    return counts


def moved(counts, table):
    """The counts one step further."""
    behind = [0] * len(counts)
    for state, number in enumerate(counts):
        if number > 0:
            for other in table[state]:
                behind[other] += number
    return behind


def come_back(counts, starts, width):
    """For each start how many walks have come back to it."""
    mask = (1 << width) - 1
    return [(counts[start] >> (width * at)) & mask for at, start in enumerate(starts)]


def start_lots(starts, width):
    """Starts in lots whose counts fit into one integer."""
    many = max(1, MOST_BITS // width)
    return [starts[at:at + many] for at in range(0, len(starts), many)]


def walk_back(tables, start):
    """The states of a walk by all tables that comes back to its start, the last one left out, or None."""
    froms = []
    edge = {start: start}
    for table in tables:
        behind = {}
        for state in list(edge):
            for other in table[state]:
                behind[other] = state
        froms.append(behind)
        edge = behind
    if start not in edge:
        return None
    state = start
    states = []
    for behind in reversed(froms):
        state = behind[state]
        states.append(state)
    return states[::-1]
