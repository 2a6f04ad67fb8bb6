"""The form that says of a web that there are marks by which each house finds its look in a book.

The marks are told by sets: a house has the bits of its mark's number in the sets it is in. What the form says of a
house and its neighbours is put so that few names stand together: at most four, where the marks need two sets.
"""

from nearpapers.balanced import all_of, any_of

LETTERS = "abcdefghijklmnopqrst"
MOST_NEAR = 3


def for_some(name, form):
    """The form that says a form of some neighbour of house x, called by a name."""
    return ("some", name, ("both", ("tie", "x", name), form))


def apart(name, other):
    """The form that says that two houses are not the same."""
    return ("not", ("same", name, other))


def near_at_least(many):
    """The form that says that house x has so many neighbours at least, from 1 to 3."""
    if many == 1:
        return ("some", "y", ("tie", "x", "y"))
    if many == 2:
        return for_some("y", for_some("z", apart("y", "z")))
    third = for_some("u", ("both", apart("y", "u"), apart("z", "u")))
    return for_some("y", for_some("z", ("both", apart("y", "z"), third)))


def near_just(many):
    """The form that says that house x of a slim web has just so many neighbours."""
    if many == 0:
        return ("not", near_at_least(1))
    if many == 3:
        return near_at_least(3)
    return ("both", near_at_least(many), ("not", near_at_least(many + 1)))


class LookForms:
    """What forms say of cells, pairs of a sign and the number of a mark; sets are the names of the bits of numbers."""

    def __init__(self, sets):
        self.sets = sets
        self.kept = {}

    def traits(self, name, cell):
        """The forms that say one thing each of a house of a cell: its sign, then each bit of its mark."""
        sign, number = cell
        forms = [("sign", name, sign)]
        for at, lot in enumerate(self.sets):
            inside = ("in", name, lot)
            forms.append(inside if (number >> at) & 1 == 1 else ("not", inside))
        return forms

    def has_cell(self, name, cell):
        """The form that says that a house has a cell."""
        return all_of(self.traits(name, cell))

    def some_near(self, cell):
        """The form that says that some neighbour of house x has a cell."""
        if cell not in self.kept:
            self.kept[cell] = for_some("y", self.has_cell("y", cell))
        return self.kept[cell]

    def all_near(self, cells):
        """The form that says that all neighbours of house x have some of these cells."""
        told = any_of([self.has_cell("y", cell) for cell in cells])
        return ("every", "y", ("either", ("not", ("tie", "x", "y")), told))

    def two_near(self, cell, other):
        """The form that says that of neighbours that have one of two cells two at least have the first one."""
        traits = list(zip(self.traits("y", cell), self.traits("z", cell), self.traits("y", other)))
        # One trait in which the cells are unlike is enough, and brings one name of a set at most.
        one, two = [(one, two) for one, two, its in traits if one != its][0]
        return for_some("y", ("both", one, for_some("z", ("both", two, apart("y", "z")))))

    def cells_form(self, near):
        """The form that says that the cells of as many neighbours of house x as stand in a row are this row."""
        cells = sorted(set(near))
        if len(cells) == len(near):
            return all_of([self.some_near(cell) for cell in cells])
        if len(cells) == 1:
            return self.all_near(cells)
        # Of three neighbours the one in the middle has the cell that two have.
        twice = near[1]
        once = near[2] if near[0] == twice else near[0]
        return all_of([self.some_near(once), self.all_near(cells), self.two_near(twice, once)])

    def near_form(self, nears):
        """The form that says that the cells of the neighbours of house x are one of some rows in order."""
        told = []
        for many in range(MOST_NEAR + 1):
            forms = [self.cells_form(near) for near in nears if len(near) == many and many > 0]
            if forms:
                told.append(("both", near_just(many), any_of(forms)))
        return any_of([near_just(0), *told] if () in nears else told)


def numbered_looks(book):
    """The pair (many, looks): how many marks houses can have by the looks, and the looks with these marks numbered."""
    marks = sorted({mark for _, mark, _ in book.looks})
    numbers = {mark: at for at, mark in enumerate(marks)}
    looks = []
    for sign, mark, near in book.looks:
        if all([other in numbers for _, other in near]):
            looks.append(((sign, numbers[mark]), tuple([(its, numbers[other]) for its, other in near])))
    return len(marks), looks


def form_of_book(book):
    """The form of the saying of a book."""
    many, looks = numbered_looks(book)
    sets = list(LETTERS[:max(many - 1, 0).bit_length()])
    forms = LookForms(sets)
    groups = {}
    for own, near in looks:
        groups.setdefault(own, []).append(near)
    told = ("every", "x", any_of([("both", forms.has_cell("x", own), forms.near_form(nears))
                                  for own, nears in groups.items()]))
    for name in sets:
        told = ("someset", name, told)
    return told
