"""Marks for the houses of any small web, placed house by house, in ascending order."""


class Search:
    """What the looks of all houses let, while marks are placed on one house behind the other.

    What is still let by a house's look is told by a number, its stand: marks that leave the same to be placed
    lead to the same stand, so that few of the many ways to place marks need to be told apart.
    """

    def __init__(self, rows, near, marks):
        self.many = len(near)
        self.marks = marks
        self.begun = tuple([0] * self.many)
        self.steps = [[] for _ in near]
        for house in range(self.many):
            scope = sorted([house, *near[house]])
            placed = rows_in_order(rows[house], [house, *near[house]])
            for other, step in zip(scope, stand_steps(placed, len(scope))):
                self.steps[other].append((house, step))
        self.failed = {}

    def behind(self, stands, depth, mark):
        """The stands once a house has a mark, or None where a look does not let it."""
        told = list(stands)
        for house, step in self.steps[depth]:
            stand = step.get((stands[house], mark), -1)
            if stand < 0:
                return None
            told[house] = stand
        return tuple(told)

    def many_ways(self):
        """In how many ways all houses can be marked."""
        ways = {self.begun: 1}
        for depth in range(self.many):
            further = {}
            for stands, number in list(ways.items()):
                for mark in range(self.marks):
                    told = self.behind(stands, depth, mark)
                    if told is not None:
                        further[told] = further.get(told, 0) + number
            ways = further
        return sum(ways.values())

    def found_marks(self, depth, stands):
        """The list of marks for the houses from this one on, or None."""
        if depth == self.many:
            return []
        if (depth, stands) in self.failed:
            return None
        for mark in range(self.marks):
            told = self.behind(stands, depth, mark)
            if told is not None:
                marks = self.found_marks(depth + 1, told)
                if marks is not None:
                    return [mark, *marks]
        self.failed[(depth, stands)] = True
        return None


def rows_in_order(rows, houses):
    """Rows of marks that stand as houses do, their marks placed in ascending order of these."""
    places = [houses.index(house) for house in sorted(houses)]
    return [tuple([row[at] for at in places]) for row in rows]


def stand_steps(rows, length):
    """For each place of some rows the dict from (stand ahead, mark) to the stand behind; one begins with stand 0.

    Beginnings of rows have one stand if the same ends make rows of them.
    """
    stands = {row: 0 for row in rows}
    steps = []
    for at in reversed(range(length)):
        ends = {}
        for row, stand in stands.items():
            ends.setdefault(row[:at], []).append((row[at], stand))
        called = {}
        stands = {}
        for row, marks in ends.items():
            stands[row] = called.setdefault(tuple(sorted(marks)), len(called))
        steps.append({(stand, mark): behind for marks, stand in called.items() for mark, behind in marks})
    return steps[::-1]


def search_many(rows, near, marks):
    """How many markings of a web there are."""
    return Search(rows, near, marks).many_ways()


def search_marks(rows, near, marks):
    """The marks of a web, or None."""
    search = Search(rows, near, marks)
    found = search.found_marks(0, search.begun)
    return None if found is None else tuple(found)
