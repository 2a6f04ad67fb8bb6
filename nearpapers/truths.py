"""Tables of what forms tell of a web, one bit for each way to tell houses and sets for the names around them."""

from nearpapers.saidforms import free_names, parts_within
from nearpapers.webs import near_lists

# Names of sets are tried one set behind the other where a table of all of them would have more bits than this.
MOST_BITS = 4194304


def ones(many):
    """So many bits, all of them 1."""
    return (1 << many) - 1


def sizes_of(scope):
    """The sizes of the tables of the beginnings of a scope, a tuple of pairs (name, how many ways it can be told)."""
    sizes = [1]
    for _, ways in scope:
        sizes.append(sizes[-1] * ways)
    return sizes


def place_of_name(scope, name):
    """The place of a name in a scope, -1 if it is not there."""
    for at, pair in enumerate(scope):
        if pair[0] == name:
            return at
    return -1


def again(table, size, times):
    """A table of this size so many times, one behind the other."""
    told = 0
    for at in range(times):
        told |= table << (size * at)
    return told


def spread(scope, at, lot):
    """The table, up to the name at this place, that is true where the name is told as one of a lot of ways, as bits."""
    size = sizes_of(scope)[at]
    told = 0
    for way in range(scope[at][1]):
        if (lot >> way) & 1 == 1:
            told |= ones(size) << (size * way)
    return told


def widened(scope, at, table):
    """A table up to the name at a place, whatever the names behind it are told as."""
    sizes = sizes_of(scope)
    for place in range(at + 1, len(scope)):
        table = again(table, sizes[place], scope[place][1])
    return table


def related(scope, low, high, lots):
    """The table that is true where the name at low is in the lot that goes with what the name at high is told as."""
    sizes = sizes_of(scope)
    told = 0
    for way, lot in enumerate(lots):
        row = widened(scope[:high], low, spread(scope, low, lot))
        told |= row << (sizes[high] * way)
    return widened(scope, high, told)


def folded(table, size, times, every):
    """What holds in each part, or in some part, of a table of so many parts of this size."""
    told = ones(size) if every else 0
    for at in range(times):
        part = (table >> (size * at)) & ones(size)
        told = told & part if every else told | part
    return told


class Truths:
    """The tables of the forms of some rows for a web; the last name of a scope counts most in the number of a bit."""

    def __init__(self, rows, web):
        near = near_lists(web)
        self.rows = rows
        self.many = web.many
        self.lots = 1 << web.many
        self.near = [sum([1 << other for other in row]) for row in near]
        self.signs = web.signs
        self.settled = [all([pair[1] == "h" for pair in pairs]) for pairs in free_names(rows)]
        self.peaks = []
        for row in rows:
            inner = max([1, *[self.peaks[place] for place in parts_within(row)]])
            self.peaks.append(inner * self.ways_of(row[0]))
        self.kept = {}

    def ways_of(self, word):
        """In how many ways the name that a form of this word tells can be told."""
        if word in ("some", "every"):
            return self.many
        return self.lots if word in ("someset", "everyset") else 1

    def table(self, at, scope, fixed):
        """The table of a row for a scope; fixed are the sets told for the names around it that are not in the scope."""
        key = (at, scope)
        if key not in self.kept:
            told = self.worked_out(self.rows[at], scope, fixed)
            # What hangs on fixed sets is another table with the next ones.
            if fixed and not self.settled[at]:
                return told
            self.kept[key] = told
        return self.kept[key]

    def worked_out(self, row, scope, fixed):
        """The table of a row that is not kept."""
        word = row[0]
        size = sizes_of(scope)[-1]
        if word == "not":
            return ones(size) ^ self.table(row[1], scope, fixed)
        if word == "both":
            told = self.table(row[1], scope, fixed)
            return told & self.table(row[2], scope, fixed) if told != 0 else 0
        if word == "either":
            told = self.table(row[1], scope, fixed)
            return told | self.table(row[2], scope, fixed) if told != ones(size) else told
        if word in ("some", "every", "someset", "everyset"):
            return self.told_table(row, scope, size, fixed)
        return self.atom_table(row, scope, size, fixed)

    def told_table(self, row, scope, size, fixed):
        """The table of a form that tells a name."""
        ways = self.ways_of(row[0])
        every = row[0] in ("every", "everyset")
        if row[0] in ("someset", "everyset") and size * ways * self.peaks[row[2]] > MOST_BITS:
            told = ones(size) if every else 0
            for lot in range(ways):
                part = self.table(row[2], scope, {**fixed, row[1]: lot})
                told = told & part if every else told | part
            return told
        return folded(self.table(row[2], (*scope, (row[1], ways)), fixed), size, ways, every)

    def atom_table(self, row, scope, size, fixed):
        """The table of an atom."""
        if row[0] == "yes":
            return ones(size)
        at = place_of_name(scope, row[1])
        if row[0] == "sign":
            lot = sum([1 << house for house, sign in enumerate(self.signs) if sign == row[2]])
            return widened(scope, at, spread(scope, at, lot))
        if row[0] == "in" and row[2] in fixed:
            return widened(scope, at, spread(scope, at, fixed[row[2]]))
        to = place_of_name(scope, row[2])
        if row[0] == "in":
            return self.member_table(scope, at, to)
        if at == to:
            return ones(size) if row[0] == "same" else 0
        lots = self.near if row[0] == "tie" else [1 << house for house in range(self.many)]
        return related(scope, min(at, to), max(at, to), lots)

    def member_table(self, scope, at, to):
        """The table that is true where the house told for the name at one place is in the set told for the other."""
        if at < to:
            return related(scope, at, to, list(range(self.lots)))
        holding = [sum([1 << lot for lot in range(self.lots) if (lot >> house) & 1 == 1]) for house in range(self.many)]
        return related(scope, to, at, holding)
