"""Registers and nets once more, as the document says them in words, and drawn ones."""

from tests.helper import plain_near


def plain_stepped(name, most, heard):
    """The register that a house takes, by the words of 12.1."""
    ways = [(name, 0, name)]
    for other, register in heard:
        if register is not None and register[1] + 1 < most:
            ways.append((register[0], register[1] + 1, other))
    greatest = max(way[0] for way in ways)
    ways = [way for way in ways if way[0] == greatest]
    nearest = min(way[1] for way in ways)
    root, far, up = min([way for way in ways if way[1] == nearest], key=lambda way: way[2])
    beneath = 1
    for _, register in heard:
        if register is not None and register[0] == root and register[2] == name and register[1] == far + 1:
            beneath += register[3]
    return (root, far, up, beneath if beneath < most else most)


def plain_heard(world, held, house):
    return tuple(sorted([(world.names[other], held[other]) for other in plain_near(world.web, house)],
                        key=lambda pair: pair[0]))


def plain_round(world, most, registers, order):
    """The registers behind a round, step by step."""
    held = list(registers)
    for house in order:
        held[house] = plain_stepped(world.names[house], most, plain_heard(world, held, house))
    return tuple(held)


def plain_far(web, start):
    """How far each house is: house by house, those one further are the neighbours that are not yet met."""
    far = {start: 0}
    for step in range(web.many):
        for house in [house for house in far if far[house] == step]:
            for other in plain_near(web, house):
                far.setdefault(other, step + 1)
    return far


def plain_rest(world):
    """The registers at rest, by the words of 12.2."""
    web, names = world.web, world.names
    root = max(range(web.many), key=lambda house: names[house])
    far = plain_far(web, root)
    up = {house: min([other for other in plain_near(web, house) if far[other] == far[house] - 1],
                     key=lambda other: names[other]) for house in range(web.many) if house != root}
    beneath = {house: 0 for house in range(web.many)}
    for house in range(web.many):
        beneath[house] += 1
        while house != root:
            house = up[house]
            beneath[house] += 1
    return tuple([(names[root], far[house], names[up.get(house, house)], beneath[house]) for house in range(web.many)])


def drawn_register(dice, world, wild):
    """A register: of names and numbers that lie near, or of any."""
    if dice.randrange(wild) == 0:
        return (dice.randrange(1000000), dice.randrange(1000), dice.randrange(1000000), dice.randrange(1000))
    top = dice.choice([*world.names, max(world.names) + 1, 999999])
    return (min(top, 999999), dice.randrange(world.web.many + 1), dice.choice(world.names), dice.randrange(world.web.many + 1))


def drawn_registers(dice, world, wild=4):
    return tuple([drawn_register(dice, world, wild) for _ in range(world.web.many)])


def drawn_order(dice, many, most=60):
    """An order that has each house at least once."""
    houses = list(range(many)) + [dice.randrange(many) for _ in range(dice.randrange(0, min(most - many, 8) + 1))]
    dice.shuffle(houses)
    return tuple(houses)


class PlainNet:
    """A net in plain Python: what each thing is, kept apart."""

    def __init__(self, world, most):
        self.world, self.most = world, most
        self.regs = {house: (name, 0, name, 1) for house, name in enumerate(world.names)}
        self.ears = {(house, other): None for house in range(world.web.many) for other in plain_near(world.web, house)}
        self.safe = {house: [] for house in self.regs}
        self.waiting = {house: [] for house in self.regs}
        self.bag = []

    def heard(self, house):
        return tuple(sorted([(self.world.names[other], register) for (its, other), register in self.ears.items()
                             if its == house], key=lambda pair: pair[0]))

    def do(self, thing):
        """Does a deed that can be done."""
        word = thing[0]
        if word == "step":
            self.regs[thing[1]] = plain_stepped(self.world.names[thing[1]], self.most, self.heard(thing[1]))
        elif word == "post":
            self.bag = self.bag + [(thing[1], thing[2], self.regs[thing[1]])]
        elif word == "bring":
            start, house, register = self.bag[thing[1]]
            self.ears[(house, start)] = register
            self.bag = self.bag[:thing[1]] + self.bag[thing[1] + 1:]
        elif word == "lose":
            self.bag = self.bag[:thing[1]] + self.bag[thing[1] + 1:]
        elif word == "double":
            self.bag = self.bag + [self.bag[thing[1]]]
        elif word == "spoil":
            self.regs[thing[1]] = thing[2]
        elif word == "mishear":
            self.ears[(thing[1], thing[2])] = thing[3]
        elif word == "forge":
            self.bag = self.bag + [thing[1:]]
        elif word == "write":
            self.waiting[thing[1]] = self.waiting[thing[1]] + [plain_row(self.regs[thing[1]])]
        elif word == "sync":
            self.safe[thing[1]] = self.safe[thing[1]] + self.waiting[thing[1]]
            self.waiting[thing[1]] = []
        else:
            self.cut(thing[1], thing[2])

    def cut(self, house, kept):
        self.safe[house] = self.safe[house] + [row[:many] for row, many in zip(self.waiting[house], kept)]
        self.waiting[house] = []
        for pair in self.ears:
            if pair[0] == house:
                self.ears[pair] = None
        name = self.world.names[house]
        self.regs[house] = (name, 0, name, 1)
        for row in self.safe[house]:
            if plain_register(row) is not None:
                self.regs[house] = plain_register(row)

    def trip(self, order):
        self.bag = []
        for house in sorted(self.regs):
            for other in plain_near(self.world.web, house):
                self.do(("post", house, other))
        while self.bag:
            self.do(("bring", 0))
        for house in order:
            self.do(("step", house))


def plain_mark(row):
    a, b = 1, 0
    for byte in row:
        a += byte
        b += a
    return a % 65521 + 65536 * (b % 65521)


def plain_row(register):
    """The row of a register, byte by byte."""
    told = []
    for number in register:
        for _ in range(4):
            told.append(number % 256)
            number //= 256
    number = plain_mark(told)
    for _ in range(4):
        told.append(number % 256)
        number //= 256
    return bytes(told)


def plain_register(row):
    """The register whose row a row is, or None."""
    if len(row) != 20:
        return None
    told = tuple([row[k] + 256 * row[k + 1] + 65536 * row[k + 2] + 16777216 * row[k + 3] for k in (0, 4, 8, 12)])
    bounds = (1000000, 1000, 1000000, 1000)
    return told if all(number < bound for number, bound in zip(told, bounds)) and plain_row(told) == row else None
