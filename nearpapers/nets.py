"""Nets of houses that hold registers, send letters and write on disks, whatever befalls them."""

from nearpapers.deeds import is_deed
from nearpapers.disks import Disk, kept_register, row_of
from nearpapers.errors import NoDeed, NoHouse, NoOrder
from nearpapers.plain import is_below
from nearpapers.registers import begun, is_round, need_most, rest, taken
from nearpapers.webs import near_lists


class Net:
    """The houses of a world with names: their registers, what they heard, their disks, and the letters under way."""

    def __init__(self, world, most):
        need_most(world, most)
        self.world = world
        self.most = most
        self.near = near_lists(world.web)
        self.held = [begun(name) for name in world.names]
        self.ears = [self.nothing_heard(house) for house in range(world.web.many)]
        self.disks = [Disk() for _ in world.names]
        self.letters = []

    def nothing_heard(self, house):
        """What a house has heard that has heard nothing, by the numbers of its neighbours."""
        return {other: None for other in self.near[house]}

    def need_house(self, house):
        """Nothing, if there is such a house."""
        if not is_below(len(self.near), house):
            raise NoHouse()

    def registers(self):
        """The registers of the houses."""
        return tuple(self.held)

    def heard(self, house):
        """What a house has heard, by the names of its neighbours."""
        self.need_house(house)
        return tuple(sorted([(self.world.names[other], held) for other, held in self.ears[house].items()]))

    def disk(self, house):
        """A copy of the disk of a house."""
        self.need_house(house)
        return self.disks[house].copy()

    def bag(self):
        """The list of the letters under way."""
        return list(self.letters)

    def copy(self):
        """Another net that is as this one."""
        told = Net(self.world, self.most)
        told.held = list(self.held)
        told.ears = [dict(row) for row in self.ears]
        told.disks = [disk.copy() for disk in self.disks]
        told.letters = list(self.letters)
        return told

    def step(self, house):
        """The house takes the register due by what it heard."""
        self.held[house] = taken(self.world.names[house], self.most, self.heard(house))

    def post(self, house, other):
        """The register of a house is under way to a neighbour."""
        self.letters.append((house, other, self.held[house]))

    def bring(self, at):
        """A letter comes to its house."""
        start, house, held = self.letters.pop(at)
        self.ears[house][start] = held

    def cut(self, house, kept):
        """The power of a house is cut: it is left with what its disk keeps."""
        self.disks[house].cut(kept)
        self.ears[house] = self.nothing_heard(house)
        told = kept_register(self.disks[house].blocks())
        self.held[house] = begun(self.world.names[house]) if told is None else told

    def do_letter(self, word, thing):
        """Does a deed with the bag."""
        if word == "post":
            self.post(thing[1], thing[2])
        elif word == "bring":
            self.bring(thing[1])
        elif word == "lose":
            self.letters.pop(thing[1])
        elif word == "double":
            self.letters.append(self.letters[thing[1]])
        else:
            self.letters.append((thing[1], thing[2], thing[3]))

    def do_house(self, word, thing):
        """Does a deed with a house and its disk."""
        house = thing[1]
        if word == "step":
            self.step(house)
        elif word == "spoil":
            self.held[house] = thing[2]
        elif word == "mishear":
            self.ears[house][thing[2]] = thing[3]
        elif word == "write":
            self.disks[house].write(row_of(self.held[house]))
        elif word == "sync":
            self.disks[house].sync()
        else:
            self.cut(house, thing[2])

    def deed(self, thing):
        """Does a deed."""
        if not is_deed(self, thing):
            raise NoDeed()
        if thing[0] in ("post", "bring", "lose", "double", "forge"):
            self.do_letter(thing[0], thing)
        else:
            self.do_house(thing[0], thing)

    def trip(self, order):
        """A round trip: all houses post to all neighbours, all letters come, then the houses step in order."""
        if not is_round(len(self.near), order):
            raise NoOrder()
        self.letters = []
        for house, row in enumerate(self.near):
            for other in row:
                self.post(house, other)
        while self.letters:
            self.bring(0)
        for house in order:
            self.step(house)

    def at_rest(self):
        """Whether the houses are at rest."""
        return tuple(self.held) == rest(self.world)
