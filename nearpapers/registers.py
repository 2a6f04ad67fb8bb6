"""Registers: what houses that heal hold, and how they come to rest whatever they held."""

from nearpapers.errors import BadOrders, NoHeard, NoName, NoNames, NoNumber, NoOrder, NoRegisters
from nearpapers.plain import is_below, is_between, is_row
from nearpapers.webs import near_lists, steps_from
from nearpapers.worlds import NAMES

SMALL = 1000
MOST = 40
MOST_STEPS = 60
MOST_ORDERS = 200


def is_register(thing):
    """Whether a thing is a register."""
    if not isinstance(thing, tuple) or len(thing) != 4:
        return False
    root, far, up, beneath = thing
    return is_below(NAMES, root) and is_below(SMALL, far) and is_below(NAMES, up) and is_below(SMALL, beneath)


def begun(name):
    """The register that a house of this name begins with."""
    if not is_below(NAMES, name):
        raise NoName()
    return (name, 0, name, 1)


def is_word(thing):
    """Whether a thing is a pair of a name and a register or None."""
    if not isinstance(thing, tuple) or len(thing) != 2:
        return False
    return is_below(NAMES, thing[0]) and (thing[1] is None or is_register(thing[1]))


def is_heard(name, thing):
    """Whether a thing is what a house of this name can have heard."""
    if not isinstance(thing, tuple) or not all([is_word(item) and item[0] != name for item in thing]):
        return False
    return all([thing[k - 1][0] < thing[k][0] for k in range(1, len(thing))])


def stepped(name, most, heard):
    """The register that a house of this name takes of what it heard."""
    if not is_below(NAMES, name):
        raise NoName()
    if not is_between(1, MOST, most):
        raise NoNumber()
    if not is_heard(name, heard):
        raise NoHeard()
    return taken(name, most, heard)


def taken(name, most, heard):
    """The register that a house takes, everything being as it should; the order of what it heard is no matter."""
    told = [(other, held) for other, held in heard if held is not None]
    # The least of these has the greatest root.
    ways = [(-held[0], held[1] + 1, other) for other, held in told if held[1] + 1 < most]
    turned_root, far, up = min([(-name, 0, name), *ways])
    root = -turned_root
    beneath = 1 + sum([held[3] for _, held in told if held[0] == root and held[1] == far + 1 and held[2] == name])
    return (root, far, up, min(beneath, most))


def need_most(world, most):
    """Nothing, if the houses of a world have names, and this is a most for them."""
    if world.names is None:
        raise NoNames()
    if not is_between(world.web.many, MOST, most):
        raise NoNumber()


def need_registers(world, most, registers):
    """Nothing, if the world, the most and the registers are as they should be."""
    need_most(world, most)
    if not isinstance(registers, tuple) or len(registers) != world.web.many:
        raise NoRegisters()
    if not all([is_register(item) for item in registers]):
        raise NoRegisters()


def is_round(many, thing):
    """Whether a thing is an order of a round: not too many houses, each of so many at least once."""
    return is_row(many, thing) and len(thing) <= MOST_STEPS and len(set(thing)) == many


def step_now(world, near, most, held, house):
    """The register that a house takes of the registers that its neighbours hold."""
    return taken(world.names[house], most, [(world.names[other], held[other]) for other in near[house]])


def after_round(world, near, most, held, order):
    """The list of the registers behind the steps of an order."""
    told = list(held)
    for house in order:
        told[house] = step_now(world, near, most, told, house)
    return told


def round_behind(world, most, registers, order):
    """The registers behind a round in which the houses step as an order says."""
    need_registers(world, most, registers)
    if not is_round(world.web.many, order):
        raise NoOrder()
    return tuple(after_round(world, near_lists(world.web), most, registers, order))


def ups_to(near, names, far):
    """For each house the house next to it by which it comes nearer, that of the least name; itself at the root."""
    told = []
    for house, row in enumerate(near):
        nearer = [(names[other], other) for other in row if far[other] == far[house] - 1]
        told.append(min(nearer)[1] if nearer else house)
    return told


def rest(world):
    """The registers at which all houses are at rest."""
    if world.names is None:
        raise NoNames()
    near = near_lists(world.web)
    root = world.names.index(max(world.names))
    far = steps_from(near, root)
    ups = ups_to(near, world.names, far)
    beneath = [1] * world.web.many
    for _, house in sorted([(far[house], house) for house in range(world.web.many)], reverse=True):
        if house != root:
            beneath[ups[house]] += beneath[house]
    names = world.names
    return tuple([(names[root], far[house], names[ups[house]], beneath[house]) for house in range(world.web.many)])


def first_no_round(many, orders):
    """The number of the first order that is none, -1 if there is no tuple of at most so many, None if all are well."""
    if not isinstance(orders, tuple) or len(orders) > MOST_ORDERS:
        return -1
    for at, order in enumerate(orders):
        if not is_round(many, order):
            return at
    return None


def rounds_of(world, most, registers, orders):
    """The least number of rounds behind which the registers are at rest, None if they are so behind none."""
    need_registers(world, most, registers)
    wrong = first_no_round(world.web.many, orders)
    if wrong is not None:
        raise BadOrders(wrong)
    near = near_lists(world.web)
    aim = list(rest(world))
    held = list(registers)
    for at, order in enumerate(orders):
        if held == aim:
            return at
        held = after_round(world, near, most, held, order)
    return len(orders) if held == aim else None
